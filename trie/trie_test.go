package trie_test

import (
	"crypto/sha256"
	"fmt"
	"iter"
	"maps"
	"math"
	"math/rand"
	"runtime"
	"slices"
	"strings"
	"testing"
	"unsafe"

	"signet/api"
	"signet/sha"
	"signet/trie"
)

const (
	least    = math.MinInt
	greatest = math.MaxInt

	maxName   = 64
	maxRecord = 60000
	maxKeys   = 4096
	fan       = 16
	deepest   = 64
)

// The face, as the chapter has it.
var (
	_ func(l ...api.Pair) (*trie.Trie, api.Errno)               = trie.New
	_ func(t *trie.Trie, key, value string) api.Errno           = (*trie.Trie).Put
	_ func(t *trie.Trie, key string) api.Errno                  = (*trie.Trie).Del
	_ func(t *trie.Trie, key string) (string, api.Errno)        = (*trie.Trie).Get
	_ func(t *trie.Trie) int                                    = (*trie.Trie).Count
	_ func(t *trie.Trie) iter.Seq[api.Pair]                     = (*trie.Trie).All
	_ func(t *trie.Trie, prefix ...int) (sha.Digest, api.Errno) = (*trie.Trie).Node
	_ func(t *trie.Trie, prefix ...int) ([]api.Pair, api.Errno) = (*trie.Trie).Under
	_ func(t *trie.Trie) *trie.Trie                             = (*trie.Trie).Copy
	_ func(a, b *trie.Trie) []string                            = trie.Diff
	_ func(t *trie.Trie) trie.Sketch                            = (*trie.Trie).Sketch
	_ func(t *trie.Trie, s trie.Sketch) trie.Patch              = (*trie.Trie).Missing
	_ func(t *trie.Trie, p trie.Patch) api.Errno                = (*trie.Trie).Mend
	_ [16]sha.Digest                                            = trie.Sketch{}
	_                                                           = struct {
		Places [16]bool
		Pairs  []api.Pair
	}(trie.Patch{})
)

// table is a table by the chapter's words: keys, each with its value.
type table map[string]string

// pairs answers all pairs, rising by keys.
func (t table) pairs() []api.Pair {
	var out []api.Pair
	for _, key := range slices.Sorted(maps.Keys(t)) {
		out = append(out, api.Pair{Name: key, Value: t[key]})
	}
	return out
}

// of answers a table with these keys, each with a value of its own.
func of(keys ...string) table {
	out := table{}
	for _, key := range keys {
		out[key] = "value of " + key
	}
	return out
}

// with answers a table with one pair more, or another one.
func (t table) with(key, value string) table {
	out := maps.Clone(t)
	out[key] = value
	return out
}

// without answers a table with some keys less.
func (t table) without(keys ...string) table {
	out := maps.Clone(t)
	for _, key := range keys {
		delete(out, key)
	}
	return out
}

// paths are those that were asked for: they are asked for again and again.
var paths = map[string][]int{}

// pathOf answers a key's path, by the library's own digest, spelt by sixteen.
func pathOf(key string) []int {
	if paths[key] == nil {
		paths[key] = speltOf(sha256.Sum256([]byte(key)))
	}
	return paths[key]
}

// speltOf answers the numbers of a path.
func speltOf(d sha.Digest) []int {
	var out []int
	for _, sign := range fmt.Sprintf("%x", d[:]) {
		out = append(out, strings.IndexRune("0123456789abcdef", sign))
	}
	return out
}

// under answers the pairs under a prefix.
func under(l []api.Pair, path func(string) []int, prefix ...int) []api.Pair {
	var out []api.Pair
	for _, p := range l {
		if slices.Equal(path(p.Name)[:len(prefix)], prefix) {
			out = append(out, p)
		}
	}
	return out
}

// lengthOf answers four bytes, the greatest first.
func lengthOf(s string) string {
	n := len(s)
	return string([]byte{byte(n / 256 / 256 / 256), byte(n / 256 / 256), byte(n / 256), byte(n)})
}

// digestOf answers the digest of pairs at a depth, which rise by keys, by the chapter's definition.
func digestOf(l []api.Pair, path func(string) []int, depth int) sha.Digest {
	if len(l) == 0 {
		return sha.Digest{}
	}
	if len(l) == 1 {
		return sha256.Sum256([]byte("\x00" + lengthOf(l[0].Name) + l[0].Name + l[0].Value))
	}
	if depth == deepest {
		text := "\x02"
		for _, p := range l {
			text += lengthOf(p.Name) + p.Name + lengthOf(p.Value) + p.Value
		}
		return sha256.Sum256([]byte(text))
	}
	var goesOn [fan][]api.Pair
	for _, p := range l {
		k := path(p.Name)[depth]
		goesOn[k] = append(goesOn[k], p)
	}
	text := "\x01"
	for _, l := range goesOn {
		d := digestOf(l, path, depth+1)
		text += string(d[:])
	}
	return sha256.Sum256([]byte(text))
}

// root answers the digest of all of a table.
func (t table) root() sha.Digest { return digestOf(t.pairs(), pathOf, 0) }

// numbered answers the pairs of a table whose paths begin with that number.
func (t table) numbered(k int) []api.Pair { return under(t.pairs(), pathOf, k) }

// sketch is that of a table.
func (t table) sketch() trie.Sketch {
	var out trie.Sketch
	l := t.pairs()
	for k := range fan {
		out[k] = digestOf(under(l, pathOf, k), pathOf, 1)
	}
	return out
}

// missing is what Missing says of a table.
func (t table) missing(s trie.Sketch) trie.Patch {
	var out trie.Patch
	was := t.sketch()
	for k := range fan {
		out.Places[k] = was[k] != s[k]
	}
	for _, p := range t.pairs() {
		if out.Places[pathOf(p.Name)[0]] {
			out.Pairs = append(out.Pairs, p)
		}
	}
	return out
}

// differing answers the keys, rising, that two tables don't have alike.
func differing(a, b table) []string {
	out := map[string]bool{}
	for key, value := range a {
		other, there := b[key]
		out[key] = !there || other != value
	}
	for key := range b {
		if _, there := a[key]; !there {
			out[key] = true
		}
	}
	maps.DeleteFunc(out, func(_ string, differs bool) bool { return !differs })
	return slices.Sorted(maps.Keys(out))
}

// made answers a trie with a table's pairs.
func made(t *testing.T, want table) *trie.Trie {
	t.Helper()
	x, e := trie.New(want.pairs()...)
	if e != api.OK || x == nil {
		t.Fatalf("New of %d pairs: %d", len(want), e)
	}
	return x
}

// check holds what a trie tells against a table.
func check(t *testing.T, x *trie.Trie, want table) {
	t.Helper()
	if got := x.Count(); got != len(want) {
		t.Errorf("Count: %d; want %d", got, len(want))
	}
	if got := slices.Collect(x.All()); !slices.Equal(got, want.pairs()) {
		t.Errorf("All: %.200q; want %.200q", got, want.pairs())
	}
	for key, value := range want {
		checkGet(t, x, key, value, api.OK)
	}
	if got, e := x.Node(); e != api.OK || got != want.root() {
		t.Errorf("Node: %x, %d; want %x", got, e, want.root())
	}
}

func checkGet(t *testing.T, x *trie.Trie, key, value string, want api.Errno) {
	t.Helper()
	if got, e := x.Get(key); e != want || got != value {
		t.Errorf("Get(%.80q): %.20q (%d), %d; want %.20q, %d", key, got, len(got), e, value, want)
	}
}

// checkIs holds an error against what it has to be.
func checkIs(t *testing.T, got, want api.Errno) {
	t.Helper()
	if got != want {
		t.Errorf("%d; want %d", got, want)
	}
}

// checkPrefix holds what a trie tells of a prefix against a list of pairs.
func checkPrefix(t *testing.T, x *trie.Trie, l []api.Pair, path func(string) []int, prefix ...int) {
	t.Helper()
	l = under(l, path, prefix...)
	want := digestOf(l, path, len(prefix))
	if got, e := x.Node(prefix...); e != api.OK || got != want {
		t.Errorf("Node(%v): %x, %d; want %x of %d", prefix, got, e, want, len(l))
	}
	if got, e := x.Under(prefix...); e != api.OK || !slices.Equal(got, l) {
		t.Errorf("Under(%v): %.100q, %d; want %.100q", prefix, got, e, l)
	}
}

// checkPrefixes asks for all prefixes of a path, and for those that go another way at their last number.
func checkPrefixes(t *testing.T, x *trie.Trie, l []api.Pair, path func(string) []int, way []int) {
	t.Helper()
	for n := range deepest + 1 {
		checkPrefix(t, x, l, path, way[:n]...)
		if n > 0 {
			for _, by := range []int{1, fan / 2, fan - 1} {
				other := slices.Clone(way[:n])
				other[n-1] = (other[n-1] + by) % fan
				checkPrefix(t, x, l, path, other...)
			}
		}
	}
}

// checkNo asks for what there is none of.
func checkNo(t *testing.T, x *trie.Trie, want api.Errno, prefix ...int) {
	t.Helper()
	if got, e := x.Node(prefix...); e != want || got != (sha.Digest{}) {
		t.Errorf("Node(%v): %x, %d; want %d", prefix, got, e, want)
	}
	if got, e := x.Under(prefix...); e != want || got != nil {
		t.Errorf("Under(%v): %q, %d; want %d", prefix, got, e, want)
	}
}

// numbers answers keys that are told by numbers.
func numbers(from, to int) []string {
	var out []string
	for n := from; n < to; n++ {
		out = append(out, fmt.Sprint("key ", n))
	}
	return out
}

// beginning answers so many keys whose paths begin with that number.
func beginning(k, count int) []string {
	var out []string
	for n := 0; len(out) < count; n++ {
		if key := fmt.Sprint("begins ", n); pathOf(key)[0] == k {
			out = append(out, key)
		}
	}
	return out
}

// full answers a table of as many keys as there may be.
func full() table { return of(numbers(0, maxKeys)...) }

// together answers how many numbers all paths of the keys begin with.
func together(keys ...string) int {
	for n := range deepest {
		for _, key := range keys {
			if pathOf(key)[n] != pathOf(keys[0])[n] {
				return n
			}
		}
	}
	return deepest
}

// lateKeys answers keys whose paths part late: of the first two behind 17 numbers, of the others behind 11 and 10.
func lateKeys() []string {
	return []string{"16c056daec757dcfe", "84fab7d900f7d977d", "late 239580771", "late 462886070", "late 259483483"}
}

func TestLateKeys(t *testing.T) {
	l := lateKeys()
	for _, c := range []struct {
		keys []string
		want int
	}{{l[:2], 17}, {l[2:4], 11}, {l[2:], 10}, {l, 0}} {
		if got := together(c.keys...); got != c.want {
			t.Errorf("%q: %d; want %d", c.keys, got, c.want)
		}
	}
}

// TestExample is the chapter's.
func TestExample(t *testing.T) {
	x := made(t, nil)
	check(t, x, nil)
	if d, e := x.Node(); e != api.OK || d != (sha.Digest{}) {
		t.Errorf("of no pairs: %x, %d", d, e)
	}
	x = made(t, table{"a": "1"})
	a := sha256.Sum256([]byte{0, 0, 0, 0, 1, 97, 49})
	way := pathOf("a")
	if !slices.Equal(way[:6], []int{12, 10, 9, 7, 8, 1}) || !slices.Equal(pathOf("b")[:4], []int{3, 14, 2, 3}) {
		t.Fatal(way, pathOf("b"))
	}
	for n := range deepest + 1 {
		if d, e := x.Node(way[:n]...); e != api.OK || d != a {
			t.Errorf("Node(%v): %x, %d", way[:n], d, e)
		}
	}
	checkIs(t, x.Put("b", "2"), api.OK)
	b := sha256.Sum256([]byte{0, 0, 0, 0, 1, 98, 50})
	text := "\x01" + strings.Repeat("\x00", 3*32) + string(b[:]) + strings.Repeat("\x00", 8*32) + string(a[:]) + strings.Repeat("\x00", 3*32)
	if d, e := x.Node(); e != api.OK || d != sha256.Sum256([]byte(text)) {
		t.Errorf("of both: %x, %d", d, e)
	}
	check(t, x, table{"a": "1", "b": "2"})
}

// goodKeys are keys, and badKeys texts that are none.
func goodKeys() []string {
	return []string{"a", "\x00", "\xff", "\x00\x00", "a\x00", "\xc3", "\xc3\xa9", "a\xffb", " ", "\n", "A", "aa", "ab", "key", strings.Repeat("a", maxName-1), strings.Repeat("a", maxName), strings.Repeat("\x00", maxName), strings.Repeat("\xff", maxName), strings.Repeat("é", maxName/2)}
}

func badKeys() []string {
	return []string{"", strings.Repeat("a", maxName+1), strings.Repeat("\x00", maxName+1), strings.Repeat("é", maxName/2) + "e", strings.Repeat("a", 2*maxName), strings.Repeat("b", maxRecord), strings.Repeat("c", 1<<20)}
}

// longTexts are too long for a value.
func longTexts() []string {
	return []string{strings.Repeat("a", maxRecord+1), strings.Repeat("\x00", maxRecord+2), strings.Repeat("\xff", 1<<16), strings.Repeat("b", 1<<20)}
}

// TestKeys is of P13.1 and P13.2: texts of 1 to 64 bytes, any bytes; no others.
func TestKeys(t *testing.T) {
	all := table{}
	x := made(t, nil)
	for _, key := range goodKeys() {
		one := made(t, of(key))
		check(t, one, of(key))
		checkPrefixes(t, one, of(key).pairs(), pathOf, pathOf(key))
		checkIs(t, x.Put(key, "of all: "+key), api.OK)
		all[key] = "of all: " + key
		check(t, x, all)
	}
	for _, key := range badKeys() {
		for _, value := range []string{"", "value", strings.Repeat("a", maxRecord)} {
			checkIs(t, x.Put(key, value), api.ErrArg)
		}
		checkIs(t, x.Del(key), api.ErrNone)
		checkGet(t, x, key, "", api.ErrNone)
		check(t, x, all)
		if y, e := trie.New(api.Pair{Name: key}); y != nil || e != api.ErrArg {
			t.Errorf("New of a key of %d bytes: %v, %d", len(key), y, e)
		}
	}
	for n := range 70 {
		for _, sign := range []string{"a", "\x00", "\xfe"} {
			want := api.ErrArg
			if n > 0 && n <= 64 {
				want = api.OK
			}
			checkIs(t, made(t, nil).Put(strings.Repeat(sign, n), "1"), want)
		}
	}
	for n := range 256 {
		key := string([]byte{byte(n)})
		check(t, made(t, of(key)), of(key))
	}
}

// TestValues is of P13.1 and P13.2: texts of up to 60000 bytes, any bytes; no others.
func TestValues(t *testing.T) {
	for _, value := range []string{"", "\x00", "\xff", "\x00\x00", "é", "\xc3", strings.Repeat("a", 63), strings.Repeat("a", 64), strings.Repeat("a", 65), strings.Repeat("a", 1<<10), strings.Repeat("\x00", maxRecord-1), strings.Repeat("b", maxRecord), strings.Repeat("\xff", maxRecord)} {
		x := made(t, table{"a": value})
		check(t, x, table{"a": value})
		checkPrefixes(t, x, table{"a": value}.pairs(), pathOf, pathOf("a"))
		checkIs(t, x.Put("b", value), api.OK)
		check(t, x, table{"a": value, "b": value})
		checkIs(t, x.Put("a", "other"), api.OK)
		check(t, x, table{"a": "other", "b": value})
		for _, long := range longTexts() {
			checkIs(t, x.Put("a", long), api.ErrLong)
			checkIs(t, x.Put("c", long), api.ErrLong)
		}
		check(t, x, table{"a": "other", "b": value})
		checkIs(t, x.Put("a", value), api.OK)
		check(t, x, table{"a": value, "b": value})
	}
}

// TestFirstError is of P13.1: ErrArg ahead of ErrLong ahead of ErrFull, in tries that are full, too.
func TestFirstError(t *testing.T) {
	was := full()
	fullOnes := made(t, was)
	for _, x := range []*trie.Trie{made(t, nil), made(t, of("a", "key 1")), fullOnes} {
		before, root := x.Count(), nodeOf(t, x)
		for _, key := range badKeys() {
			checkIs(t, x.Put(key, "value"), api.ErrArg)
			for _, long := range longTexts() {
				checkIs(t, x.Put(key, long), api.ErrArg)
				if y, e := trie.New(api.Pair{Name: key, Value: long}); y != nil || e != api.ErrArg {
					t.Errorf("New: %d", e)
				}
			}
		}
		for _, long := range longTexts() {
			checkIs(t, x.Put("key 1", long), api.ErrLong)
			checkIs(t, x.Put("none of them", long), api.ErrLong)
		}
		if x.Count() != before || nodeOf(t, x) != root {
			t.Errorf("%d, %x; want %d, %x", x.Count(), nodeOf(t, x), before, root)
		}
	}
	checkIs(t, fullOnes.Put("none of them", "value"), api.ErrFull)
	checkIs(t, fullOnes.Put("none of them", strings.Repeat("a", maxRecord)), api.ErrFull)
	check(t, fullOnes, was)
}

// nodeOf answers the digest of all.
func nodeOf(t *testing.T, x *trie.Trie) sha.Digest {
	t.Helper()
	d, e := x.Node()
	if e != api.OK {
		t.Fatal(e)
	}
	return d
}

// TestNew is of P13.1: one pair behind the other, up to the first error.
func TestNew(t *testing.T) {
	a, b, a2, long, none := api.Pair{Name: "a", Value: "1"}, api.Pair{Name: "b", Value: "2"}, api.Pair{Name: "a", Value: "3"}, api.Pair{Name: "c", Value: strings.Repeat("a", maxRecord+1)}, api.Pair{}
	for _, c := range []struct {
		l    []api.Pair
		want table
		e    api.Errno
	}{
		{},
		{l: []api.Pair{}},
		{l: []api.Pair{a}, want: table{"a": "1"}},
		{l: []api.Pair{a, b}, want: table{"a": "1", "b": "2"}},
		{l: []api.Pair{b, a}, want: table{"a": "1", "b": "2"}},
		{l: []api.Pair{a, a}, want: table{"a": "1"}},
		{l: []api.Pair{a, a2}, want: table{"a": "3"}},
		{l: []api.Pair{a2, a}, want: table{"a": "1"}},
		{l: []api.Pair{a, b, a2, b, a2}, want: table{"a": "3", "b": "2"}},
		{l: []api.Pair{{Name: "a"}}, want: table{"a": ""}},
		{l: []api.Pair{none}, e: api.ErrArg},
		{l: []api.Pair{long}, e: api.ErrLong},
		{l: []api.Pair{none, long}, e: api.ErrArg},
		{l: []api.Pair{long, none}, e: api.ErrLong},
		{l: []api.Pair{a, long, none, b}, e: api.ErrLong},
		{l: []api.Pair{a, none, long, b}, e: api.ErrArg},
		{l: []api.Pair{a, b, a2, none}, e: api.ErrArg},
		{l: []api.Pair{a, b, a2, long}, e: api.ErrLong},
	} {
		x, e := trie.New(c.l...)
		if e != c.e || (x == nil) != (e != api.OK) {
			t.Errorf("New of %d: %v, %d; want %d", len(c.l), x != nil, e, c.e)
		}
		if x != nil {
			check(t, x, c.want)
		}
	}
}

// TestNewFull is of P13.1: as many keys as there may be, and more.
func TestNewFull(t *testing.T) {
	l := full().pairs()
	long, none, other := api.Pair{Name: "c", Value: strings.Repeat("a", maxRecord+1)}, api.Pair{}, api.Pair{Name: "other"}
	check(t, made(t, full()), full())
	twice, e := trie.New(append(slices.Clone(l), l...)...)
	checkIs(t, e, api.OK)
	check(t, twice, full())
	for _, c := range []struct {
		more []api.Pair
		want api.Errno
	}{
		{[]api.Pair{other}, api.ErrFull},
		{[]api.Pair{other, none, long}, api.ErrFull},
		{[]api.Pair{none, other}, api.ErrArg},
		{[]api.Pair{l[0], long, other}, api.ErrLong},
		{[]api.Pair{l[0], l[77], other, l[1]}, api.ErrFull},
	} {
		if x, e := trie.New(append(slices.Clone(l), c.more...)...); x != nil || e != c.want {
			t.Errorf("New of %d: %v, %d; want %d", len(l)+len(c.more), x != nil, e, c.want)
		}
	}
	if x, e := trie.New(of(numbers(0, maxKeys+1)...).pairs()...); x != nil || e != api.ErrFull {
		t.Errorf("New of %d: %v, %d", maxKeys+1, x != nil, e)
	}
}

// TestFull is of P13.1: a key that is there may have another value, and makes room when it goes; others are refused.
func TestFull(t *testing.T) {
	want := full()
	x := made(t, want)
	for _, key := range []string{"key 0", "key 1", "key 77", "key 4095"} {
		checkIs(t, x.Put(key, "another value"), api.OK)
		want[key] = "another value"
		checkIs(t, x.Put("none of them", ""), api.ErrFull)
		checkIs(t, x.Put("key 4096", "value"), api.ErrFull)
		checkGet(t, x, "key 4096", "", api.ErrNone)
	}
	check(t, x, want)
	checkIs(t, x.Del("none of them"), api.ErrNone)
	checkIs(t, x.Put("none of them", ""), api.ErrFull)
	checkIs(t, x.Del("key 5"), api.OK)
	checkIs(t, x.Put("none of them", "1"), api.OK)
	checkIs(t, x.Put("none of them", "2"), api.OK)
	checkIs(t, x.Put("key 5", "1"), api.ErrFull)
	check(t, x, want.without("key 5").with("none of them", "2"))
}

// TestDelGet is of P13.1: keys that are there, and that aren't.
func TestDelGet(t *testing.T) {
	for n := range 20 {
		want := of(numbers(0, n)...)
		x := made(t, want)
		for _, key := range append(numbers(n, n+20), "", "key", "key ", "key 0 ", "Key 0", "\x00", "key 0\x00", strings.Repeat("a", maxName+1)) {
			checkGet(t, x, key, "", api.ErrNone)
			checkIs(t, x.Del(key), api.ErrNone)
		}
		check(t, x, want)
		for _, key := range numbers(0, n) {
			checkIs(t, x.Del(key), api.OK)
			checkIs(t, x.Del(key), api.ErrNone)
			checkGet(t, x, key, "", api.ErrNone)
			delete(want, key)
			check(t, x, want)
		}
		checkIs(t, x.Put("again", "1"), api.OK)
		check(t, x, table{"again": "1"})
	}
}

// TestEmptyValue is of P13.1: a key with a value of no bytes is there.
func TestEmptyValue(t *testing.T) {
	x := made(t, table{"a": "", "b": "1"})
	check(t, x, table{"a": "", "b": "1"})
	checkIs(t, x.Put("b", ""), api.OK)
	check(t, x, table{"a": "", "b": ""})
	checkIs(t, x.Del("a"), api.OK)
	check(t, x, table{"b": ""})
	checkGet(t, x, "a", "", api.ErrNone)
}

// change puts a key, or takes it away, in a trie and in a table.
func change(t *testing.T, x *trie.Trie, want table, chance *rand.Rand, keys []string) {
	t.Helper()
	key := keys[chance.Intn(len(keys))]
	_, there := want[key]
	switch e := api.OK; chance.Intn(5) {
	case 0, 1:
		if !there {
			e = api.ErrNone
		}
		checkIs(t, x.Del(key), e)
		delete(want, key)
	case 2:
		checkIs(t, x.Put("", "1"), api.ErrArg)
		checkIs(t, x.Put(key, strings.Repeat("1", maxRecord+1)), api.ErrLong)
	default:
		value := strings.Repeat(fmt.Sprint(chance.Intn(9)), chance.Intn(3))
		checkIs(t, x.Put(key, value), api.OK)
		want[key] = value
	}
	if x.Count() != len(want) {
		t.Fatalf("Count: %d; want %d", x.Count(), len(want))
	}
}

// TestByChance is of P13.1 and P13.2: Put and Del by chance.
func TestByChance(t *testing.T) {
	chance := rand.New(rand.NewSource(1))
	for _, keys := range [][]string{{"a"}, {"a", "b"}, numbers(0, 5), lateKeys(), numbers(0, 40), goodKeys(), beginning(3, 30)} {
		x, want := made(t, nil), table{}
		for range 400 {
			change(t, x, want, chance, keys)
			check(t, x, want)
			for _, key := range keys[:min(8, len(keys))] {
				if value, there := want[key]; there {
					checkGet(t, x, key, value, api.OK)
				} else {
					checkGet(t, x, key, "", api.ErrNone)
				}
			}
			way := pathOf(keys[chance.Intn(len(keys))])
			for range 5 {
				checkPrefix(t, x, want.pairs(), pathOf, way[:chance.Intn(deepest+1)]...)
			}
			if t.Failed() {
				return
			}
		}
	}
}

// TestByChanceMany is of P13.1 and P13.2: the same, with many keys.
func TestByChanceMany(t *testing.T) {
	chance := rand.New(rand.NewSource(2))
	x, want, keys := made(t, nil), table{}, append(numbers(0, 900), lateKeys()...)
	for n := range 6000 {
		change(t, x, want, chance, keys)
		if n%200 == 0 {
			check(t, x, want)
			way := pathOf(keys[chance.Intn(len(keys))])
			for n := range 6 {
				checkPrefix(t, x, want.pairs(), pathOf, way[:n]...)
			}
		}
		if t.Failed() {
			return
		}
	}
}

// TestAllShort is of P13.1 to P13.3 and P13.6: all scripts of four calls, of keys whose paths part late and early; it is copies that go on.
func TestAllShort(t *testing.T) {
	late := lateKeys()
	keys := []string{late[0], late[1], "a"}
	known := map[string]sha.Digest{}
	var goOn func(x *trie.Trie, want table, left int)
	goOn = func(x *trie.Trie, want table, left int) {
		name := fmt.Sprint(want.pairs())
		d := nodeOf(t, x)
		if was, there := known[name]; there && was != d {
			t.Fatalf("%s: %x and %x", name, was, d)
		} else if !there {
			known[name] = d
			check(t, x, want)
			for _, key := range keys {
				checkPrefixes(t, x, want.pairs(), pathOf, pathOf(key))
			}
		}
		if left == 0 {
			return
		}
		for _, key := range keys {
			for _, value := range []string{"", "1"} {
				y := x.Copy()
				checkIs(t, y.Put(key, value), api.OK)
				next := want.with(key, value)
				if got := trie.Diff(x, y); !slices.Equal(got, differing(want, next)) {
					t.Fatalf("Diff: %q; want %q", got, differing(want, next))
				}
				goOn(y, next, left-1)
			}
			y, e := x.Copy(), api.ErrNone
			if _, there := want[key]; there {
				e = api.OK
			}
			checkIs(t, y.Del(key), e)
			goOn(y, want.without(key), left-1)
		}
		if nodeOf(t, x) != d {
			t.Fatalf("%s: changed behind its copies", name)
		}
	}
	goOn(made(t, nil), table{}, 4)
	if len(known) != 27 {
		t.Errorf("%d tables", len(known))
	}
}

// TestAllEnds is of P13.1: ranging over All ends early, begins again, and is nested.
func TestAllEnds(t *testing.T) {
	want := of(numbers(0, 30)...)
	x := made(t, want)
	all := x.All()
	for most := range 32 {
		var got []api.Pair
		for p := range all {
			if len(got) == most {
				break
			}
			got = append(got, p)
		}
		if !slices.Equal(got, want.pairs()[:min(most, 30)]) {
			t.Errorf("the first %d: %q", most, got)
		}
		calls := 0
		all(func(api.Pair) bool {
			calls++
			return calls < most
		})
		if calls != min(max(most, 1), 30) {
			t.Errorf("%d calls; want %d", calls, most)
		}
	}
	n := 0
	for p := range all {
		for q := range all {
			for range x.All() {
				break
			}
			if p == q {
				n++
			}
		}
	}
	if n != 30 {
		t.Error(n)
	}
	check(t, x, want)
}

// TestAllChanged is of P13.1: what is gone through is as it was when ranging began, whatever comes of the trie meanwhile; and All that was asked for earlier begins with what is there then.
func TestAllChanged(t *testing.T) {
	for _, change := range []func(*trie.Trie, string){
		func(x *trie.Trie, key string) { x.Del(key) },
		func(x *trie.Trie, key string) { x.Put(key, "another") },
		func(x *trie.Trie, key string) { x.Put("x "+key, "one more") },
		func(x *trie.Trie, key string) {
			for k := range 100 {
				x.Del(fmt.Sprint("key ", k))
			}
		},
		func(x *trie.Trie, key string) { x.Mend(trie.Patch{Places: places(all()...)}) },
		func(x *trie.Trie, key string) { x.Mend(made(t, of("other")).Missing(x.Sketch())) },
	} {
		want := of(numbers(0, 50)...)
		x := made(t, want)
		var got []api.Pair
		for p := range x.All() {
			got = append(got, p)
			change(x, p.Name)
		}
		if !slices.Equal(got, want.pairs()) {
			t.Errorf("%q", got)
		}
	}
	x := made(t, of("a"))
	all := x.All()
	x.Put("b", "2")
	x.Del("a")
	for range 3 {
		if got := slices.Collect(all); !slices.Equal(got, []api.Pair{{Name: "b", Value: "2"}}) {
			t.Errorf("%q", got)
		}
	}
	x.Del("b")
	for p := range all {
		t.Errorf("%q", p)
	}
}

// all answers all numbers that a path may go on with.
func all() []int {
	var out []int
	for k := range fan {
		out = append(out, k)
	}
	return out
}

// places answers those of some numbers.
func places(numbers ...int) [fan]bool {
	var out [fan]bool
	for _, k := range numbers {
		out[k] = true
	}
	return out
}

// ofNode are tables for the digests of their parts.
func ofNode() []table {
	late := lateKeys()
	return []table{
		{},
		of("a"),
		{"a": ""},
		of("a", "b"),
		of("key"),
		{strings.Repeat("a", maxName): strings.Repeat("b", maxRecord)},
		of(late[:2]...),
		of(late[0]),
		of(late[1]).with("a", "1"),
		of(late...),
		of(beginning(0, 9)...),
		of(beginning(15, 2)...),
		of(append(numbers(0, 40), late...)...),
		of(numbers(0, 300)...),
	}
}

// TestNode is of P13.2: at all prefixes of the keys' paths, and at others, in the table's trie, and in one that was fuller.
func TestNode(t *testing.T) {
	for _, want := range ofNode() {
		l := want.pairs()
		fuller := made(t, want)
		others := append(numbers(1000, 1040), lateKeys()...)
		for _, key := range others {
			checkIs(t, fuller.Put(key, "gone soon"), api.OK)
		}
		for _, key := range others {
			checkIs(t, fuller.Del(key), api.OK)
			if value, there := want[key]; there {
				checkIs(t, fuller.Put(key, value), api.OK)
			}
		}
		for _, x := range []*trie.Trie{made(t, want), fuller} {
			check(t, x, want)
			for _, key := range append([]string{"a", "b", "none of them", lateKeys()[0], lateKeys()[2]}, slices.Sorted(maps.Keys(want))[:min(len(want), 12)]...) {
				checkPrefixes(t, x, l, pathOf, pathOf(key))
			}
			for k := range fan {
				checkPrefix(t, x, l, pathOf, k)
				for m := range fan {
					checkPrefix(t, x, l, pathOf, k, m)
					checkPrefix(t, x, l, pathOf, 12, k, m)
				}
				checkPrefix(t, x, l, pathOf, slices.Repeat([]int{k}, deepest)...)
			}
		}
	}
}

// TestRange is of P13.2: more than 64 numbers, and numbers that aren't 0 to 15, at every place.
func TestRange(t *testing.T) {
	late := pathOf(lateKeys()[0])
	for _, want := range []table{{}, of("a"), of(lateKeys()...), of(numbers(0, 60)...)} {
		x := made(t, want)
		for _, way := range [][]int{pathOf("a"), late, make([]int, deepest), slices.Repeat([]int{15}, deepest)} {
			for _, n := range []int{1, 2, 3, 100, 1 << 16} {
				checkNo(t, x, api.ErrRange, append(slices.Clone(way), make([]int, n)...)...)
				checkNo(t, x, api.ErrRange, append(slices.Clone(way), slices.Repeat([]int{-1}, n)...)...)
				checkNo(t, x, api.ErrRange, append(slices.Clone(way), slices.Repeat([]int{16}, n)...)...)
			}
			for n := range deepest {
				for _, k := range []int{least, least + 1, -1 << 32, -256, -16, -2, -1, 16, 17, 31, 32, 255, 256, 1 << 32, 1<<32 + 1, greatest - 15, greatest - 1, greatest} {
					odd := slices.Clone(way)
					odd[n] = k
					checkNo(t, x, api.ErrRange, odd...)
					checkNo(t, x, api.ErrRange, odd[:n+1]...)
					checkNo(t, x, api.ErrRange, append(odd, 0)...)
				}
				for _, k := range []int{0, 15} {
					odd := slices.Clone(way)
					odd[n] = k
					checkPrefix(t, x, want.pairs(), pathOf, odd...)
					checkPrefix(t, x, want.pairs(), pathOf, odd[:n+1]...)
				}
			}
			checkPrefix(t, x, want.pairs(), pathOf, way...)
		}
		checkPrefix(t, x, want.pairs(), pathOf)
		checkPrefix(t, x, want.pairs(), pathOf, []int{}...)
		check(t, x, want)
	}
}

// TestOneWay is of P13.2: keys that share their whole path, or all but its last numbers. The test says what their paths are.
func TestOneWay(t *testing.T) {
	one, last, beforeLast, first := sha.Digest{1, 2, 3}, sha.Digest{1, 2, 3, 31: 1}, sha.Digest{1, 2, 3, 31: 16}, sha.Digest{16}
	ways := map[string]sha.Digest{"a": one, "b": one, "c": one, "ab": one, "d": last, "e": last, "f": beforeLast, "g": first}
	spelt := map[string][]int{}
	for key, way := range ways {
		spelt[key] = speltOf(way)
	}
	path := func(key string) []int { return spelt[key] }
	keys := slices.Sorted(maps.Keys(ways))
	chance := rand.New(rand.NewSource(3))
	x, want := made(t, nil), table{}
	known := map[string]sha.Digest{}
	for range 3000 {
		key, was, old := keys[chance.Intn(len(keys))], x.Copy(), maps.Clone(want)
		if _, there := want[key]; there && chance.Intn(2) == 0 {
			trie.DelAt(x, ways[key], key)
			delete(want, key)
		} else {
			want[key] = fmt.Sprint("value ", chance.Intn(2))
			trie.PutAt(x, ways[key], api.Pair{Name: key, Value: want[key]})
		}
		if got := slices.Collect(x.All()); !slices.Equal(got, want.pairs()) || x.Count() != len(want) {
			t.Fatalf("%d: %q; want %q", x.Count(), got, want.pairs())
		}
		checkPrefix(t, was, old.pairs(), path)
		if got := trie.Diff(was, x); !slices.Equal(got, differing(old, want)) {
			t.Fatalf("Diff: %q; want %q", got, differing(old, want))
		}
		// What there is of a table is asked for once, and then whether it is the same whatever way it came to be.
		name, d := fmt.Sprint(want), nodeOf(t, x)
		if was, there := known[name]; there && was != d {
			t.Fatalf("%s: %x and %x", name, was, d)
		} else if !there && len(known) < 40 {
			for _, key := range []string{"a", "d", "f", "g"} {
				checkPrefixes(t, x, want.pairs(), path, path(key))
			}
			known[name] = d
		}
		if t.Failed() {
			return
		}
	}
}

// TestOneWayLong is of P13.2: such keys, with values whose lengths fill more than one byte.
func TestOneWayLong(t *testing.T) {
	way := sha.Digest{31: 255}
	path := func(string) []int { return speltOf(way) }
	want, x := table{}, made(t, nil)
	for n, size := range []int{0, 1, 255, 256, 259, 1<<15 - 1, 1 << 15, maxRecord} {
		key := strings.Repeat("k", n*9+1)
		want[key] = strings.Repeat("v", size)
		trie.PutAt(x, way, api.Pair{Name: key, Value: want[key]})
		for _, n := range []int{0, 1, 2, 62, 63, 64} {
			checkPrefix(t, x, want.pairs(), path, speltOf(way)[:n]...)
		}
	}
}

// TestEachByte is of P13.2 and P13.5: a key or a value that has another byte, a byte more or less, or gives a byte to the other one has another digest.
func TestEachByte(t *testing.T) {
	key, value := "the key", "the value of it"
	known := map[sha.Digest]string{}
	add := func(key, value string) {
		name := fmt.Sprintf("%q %q", key, value)
		x := made(t, table{key: value})
		d := nodeOf(t, x)
		if was, there := known[d]; there && was != name {
			t.Errorf("%s as %s", name, was)
		}
		if d != (table{key: value}).root() {
			t.Errorf("%s: %x", name, d)
		}
		known[d] = name
	}
	whole := key + value
	for n := 1; n <= len(whole); n++ {
		add(whole[:n], whole[n:])
		add(whole[:n], "")
		add(whole[n-1:n], whole[:n-1])
	}
	for n := range whole {
		for by := 1; by < 256; by *= 2 {
			other := []byte(whole)
			other[n] ^= byte(by)
			add(string(other[:len(key)]), string(other[len(key):]))
		}
	}
}

// TestOrder is of P13.5: in whatever order the pairs came, also with others put and taken away between.
func TestOrder(t *testing.T) {
	chance := rand.New(rand.NewSource(4))
	for _, want := range ofNode() {
		l := want.pairs()
		first := made(t, want)
		for range 12 {
			x, mixed := made(t, nil), made(t, nil)
			var between []string
			for _, i := range chance.Perm(len(l)) {
				checkIs(t, x.Put(l[i].Name, l[i].Value), api.OK)
				for _, key := range []string{fmt.Sprint("other ", chance.Intn(100)), lateKeys()[chance.Intn(len(lateKeys()))], l[i].Name} {
					checkIs(t, mixed.Put(key, "other"), api.OK)
					between = append(between, key)
				}
				checkIs(t, mixed.Put(l[i].Name, l[i].Value), api.OK)
			}
			for _, key := range between {
				if value, there := want[key]; there {
					checkIs(t, mixed.Put(key, value), api.OK)
				} else {
					mixed.Del(key)
				}
			}
			for _, y := range []*trie.Trie{x, mixed} {
				if nodeOf(t, y) != want.root() || y.Sketch() != first.Sketch() || len(trie.Diff(first, y)) != 0 || y.Count() != len(l) {
					t.Fatalf("of %.100q: %.100q", l, slices.Collect(y.All()))
				}
				for range 20 {
					way := pathOf(fmt.Sprint(chance.Intn(50)))
					if len(l) > 0 {
						way = pathOf(l[chance.Intn(len(l))].Name)
					}
					way = way[:chance.Intn(deepest+1)]
					one, _ := first.Node(way...)
					if two, e := y.Node(way...); e != api.OK || one != two {
						t.Fatalf("%v: %x, %x", way, one, two)
					}
				}
			}
		}
	}
}

// checkDiff holds Diff of two tries against what differs in their tables, either way round.
func checkDiff(t *testing.T, x, y *trie.Trie, a, b table) {
	t.Helper()
	want := differing(a, b)
	for range 2 {
		if got := trie.Diff(x, y); !slices.Equal(got, want) {
			t.Errorf("Diff: %.200q; want %.200q", got, want)
		}
		x, y = y, x
	}
}

// TestDiff is of P13.3 and P13.5: of all kinds of two tables.
func TestDiff(t *testing.T) {
	late, many := lateKeys(), of(append(numbers(0, 200), lateKeys()...)...)
	tables := []table{
		{}, of("a"), {"a": ""}, {"a": "another"}, of("b"), of("a", "b"), of("a", "b", "c"),
		of(late[0]), of(late[1]), of(late[:2]...), of(late...), of(late[1:]...), of(late[0]).with(late[1], "another"), of(late...).with(late[2], ""),
		of(beginning(3, 5)...), of(beginning(3, 6)...), of(beginning(4, 5)...),
		of(goodKeys()...),
		many, many.with("key 7", "another"), many.with("one more", ""), many.without("key 7"), many.without(late[0]), many.with(late[1], "another"),
		many.without(numbers(0, 100)...), many.without(numbers(100, 200)...), of(numbers(200, 400)...), of(numbers(150, 350)...),
	}
	for _, a := range tables {
		x := made(t, a)
		checkDiff(t, x, x, a, a)
		checkDiff(t, x, x.Copy(), a, a)
		checkDiff(t, x, nil, a, nil)
		for _, b := range tables {
			y := made(t, b)
			checkDiff(t, x, y, a, b)
			// Tries that share what they have in common.
			z := x.Copy()
			for key, value := range b {
				if a[key] != value || value == "" {
					checkIs(t, z.Put(key, value), api.OK)
				}
			}
			for key := range a {
				if _, there := b[key]; !there {
					checkIs(t, z.Del(key), api.OK)
				}
			}
			check(t, z, b)
			checkDiff(t, x, z, a, b)
			checkDiff(t, y, z, b, b)
			check(t, x, a)
		}
	}
	if got := trie.Diff(nil, nil); len(got) != 0 {
		t.Errorf("of nil tries: %q", got)
	}
}

// TestDiffOne is of P13.3: in a trie of many keys one other value, one key more, one less.
func TestDiffOne(t *testing.T) {
	was := of(append(numbers(0, 500), lateKeys()...)...)
	x := made(t, was)
	for key, value := range was {
		y, less := x.Copy(), x.Copy()
		checkIs(t, y.Put(key, value+" "), api.OK)
		checkIs(t, less.Del(key), api.OK)
		for _, two := range [][2]*trie.Trie{{x, y}, {x, less}, {y, less}} {
			for range 2 {
				if got := trie.Diff(two[0], two[1]); !slices.Equal(got, []string{key}) {
					t.Errorf("%q: %q", key, got)
				}
				two[0], two[1] = two[1], two[0]
			}
		}
	}
}

// TestDiffByChance is of P13.3: rising, of tables by chance.
func TestDiffByChance(t *testing.T) {
	chance := rand.New(rand.NewSource(5))
	keys := append(numbers(0, 60), lateKeys()...)
	for range 300 {
		a, x := table{}, made(t, nil)
		for range chance.Intn(100) {
			change(t, x, a, chance, keys)
		}
		b, y := maps.Clone(a), x.Copy()
		for range chance.Intn(20) {
			change(t, y, b, chance, keys)
		}
		checkDiff(t, x, y, a, b)
		checkDiff(t, made(t, a), y, a, b)
		if t.Failed() {
			return
		}
	}
}

// samePatch tells whether two patches are the same.
func samePatch(p, q trie.Patch) bool {
	return p.Places == q.Places && slices.Equal(p.Pairs, q.Pairs)
}

// checkMended makes x, of the table a, as y, of the table b.
func checkMended(t *testing.T, x, y *trie.Trie, a, b table) {
	t.Helper()
	s := x.Sketch()
	if s != a.sketch() {
		t.Fatalf("Sketch: %x; want %x", s, a.sketch())
	}
	p := y.Missing(s)
	if !samePatch(p, b.missing(s)) {
		t.Fatalf("Missing: %.200v; want %.200v", p, b.missing(s))
	}
	checkIs(t, x.Mend(p), api.OK)
	check(t, x, b)
	if y != nil {
		check(t, y, b)
	}
	checkDiff(t, x, y, b, b)
	if x.Sketch() != y.Sketch() {
		t.Error("other sketches")
	}
	if p := y.Missing(x.Sketch()); !samePatch(p, trie.Patch{}) {
		t.Errorf("behind Mend: %.200v", p)
	}
}

// TestMended is of P13.4 and P13.5: of tables that differ under none of the sixteen numbers, one, some, all.
func TestMended(t *testing.T) {
	late, many := lateKeys(), of(append(numbers(0, 100), lateKeys()...)...)
	tables := []table{{}, of("a"), of("b"), {"a": "another"}, of("a", "b"), of(late...), of(late[1:]...), of(beginning(0, 3)...), of(beginning(15, 3)...), many, of(numbers(100, 200)...), of(goodKeys()...)}
	for k := range fan {
		key := many.numbered(k)[0].Name
		tables = append(tables, many.with(key, "another"), many.without(key), many.with(beginning(k, 9)[8], "one more"))
		gone := maps.Clone(many)
		for _, p := range many.numbered(k) {
			delete(gone, p.Name)
		}
		tables = append(tables, gone)
	}
	var tries []*trie.Trie
	for _, want := range tables {
		tries = append(tries, made(t, want))
	}
	unlike := map[int]bool{}
	for i, a := range tables {
		for j, b := range tables {
			if i > 12 && j > 12 && (i+j)%19 > 1 {
				continue
			}
			checkMended(t, tries[i].Copy(), tries[j], a, b)
			n := 0
			for _, there := range b.missing(a.sketch()).Places {
				if there {
					n++
				}
			}
			unlike[n] = true
		}
		if t.Failed() {
			return
		}
		checkMended(t, tries[i].Copy(), nil, a, nil)
		check(t, tries[i], a)
	}
	for _, n := range []int{0, 1, 2, 3, 4, 15, 16} {
		if !unlike[n] {
			t.Errorf("no two tables that differ under %d numbers", n)
		}
	}
}

// TestMendedByChance is of P13.4 and P13.5: of tables by chance, that share much or nothing.
func TestMendedByChance(t *testing.T) {
	chance := rand.New(rand.NewSource(6))
	for _, keys := range [][]string{numbers(0, 4), append(numbers(0, 60), lateKeys()...)} {
		for range 150 {
			a, x := table{}, made(t, nil)
			for range chance.Intn(2 * len(keys)) {
				change(t, x, a, chance, keys)
			}
			b, y := maps.Clone(a), x.Copy()
			for range chance.Intn(9) {
				change(t, y, b, chance, keys)
			}
			checkMended(t, x.Copy(), y, a, b)
			checkMended(t, x, made(t, b), a, b)
			if t.Failed() {
				return
			}
		}
	}
}

// TestMissing is of P13.4: of sketches that are no trie's, too.
func TestMissing(t *testing.T) {
	for _, want := range []table{{}, of("a"), of("a", "b"), of(numbers(0, 100)...), of(lateKeys()...)} {
		x := made(t, want)
		own := x.Sketch()
		if own != want.sketch() {
			t.Errorf("%x; want %x", own, want.sketch())
		}
		if p := x.Missing(own); !samePatch(p, trie.Patch{}) {
			t.Errorf("of its own: %v", p)
		}
		for k := range fan {
			if d, e := x.Node(k); e != api.OK || d != own[k] {
				t.Errorf("Node(%d): %x, %d; want %x", k, d, e, own[k])
			}
			for _, n := range []int{0, 1, 15, 16, 30, 31} {
				s := own
				s[k][n] ^= 1
				if p := x.Missing(s); p.Places != places(k) || !slices.Equal(p.Pairs, want.numbered(k)) {
					t.Errorf("without %d: %v", k, p)
				}
				s[(k+5)%fan][n] ^= 128
				if p := x.Missing(s); p.Places != places(k, (k+5)%fan) || !samePatch(p, want.missing(s)) {
					t.Errorf("without %d and another one: %v", k, p)
				}
			}
		}
		var s trie.Sketch
		if p := x.Missing(s); !slices.Equal(p.Pairs, want.pairs()) || !samePatch(p, want.missing(s)) {
			t.Errorf("of noughts: %v", p)
		}
		for k := range s {
			s[k] = sha256.Sum256([]byte{byte(k)})
		}
		if p := x.Missing(s); !slices.Equal(p.Pairs, want.pairs()) || p.Places != places(all()...) {
			t.Errorf("of others: %v", p)
		}
		check(t, x, want)
	}
}

// mended is what a table is behind a patch that is taken.
func (t table) mended(p trie.Patch) table {
	out := table{}
	for key, value := range t {
		if !p.Places[pathOf(key)[0]] {
			out[key] = value
		}
	}
	for _, q := range p.Pairs {
		out[q.Name] = q.Value
	}
	return out
}

// checkMend mends a trie of that table.
func checkMend(t *testing.T, was table, p trie.Patch, want api.Errno) {
	t.Helper()
	x := made(t, was)
	checkIs(t, x.Mend(p), want)
	if want != api.OK {
		check(t, x, was)
		return
	}
	check(t, x, was.mended(p))
}

// TestMend is of P13.4: patches of all kinds.
func TestMend(t *testing.T) {
	late := lateKeys()
	for _, was := range []table{{}, of("a"), of("b"), of("a", "b", "c"), of(late...), of(numbers(0, 100)...)} {
		checkMend(t, was, trie.Patch{}, api.OK)
		for k := range fan {
			checkMend(t, was, trie.Patch{Places: places(k)}, api.OK)
			checkMend(t, was, trie.Patch{Places: places(k), Pairs: []api.Pair{}}, api.OK)
			checkMend(t, was, trie.Patch{Places: places(k, (k+1)%fan, (k+7)%fan)}, api.OK)
			under := of(beginning(k, 5)...).pairs()
			slices.Reverse(under)
			checkMend(t, was, trie.Patch{Places: places(k), Pairs: under}, api.OK)
			checkMend(t, was, trie.Patch{Places: places(all()...), Pairs: under}, api.OK)
			checkMend(t, was, trie.Patch{Places: places(k), Pairs: was.numbered(k)}, api.OK)
			checkMend(t, was, trie.Patch{Places: places((k + 1) % fan), Pairs: under}, api.ErrForm)
			checkMend(t, was, trie.Patch{Pairs: under[:1]}, api.ErrForm)
			var others [fan]bool
			for m := range fan {
				others[m] = m != k
			}
			checkMend(t, was, trie.Patch{Places: others, Pairs: under[4:]}, api.ErrForm)
			checkMend(t, was, trie.Patch{Places: others}, api.OK)
		}
		checkMend(t, was, trie.Patch{Places: places(all()...)}, api.OK)
		checkMend(t, was, trie.Patch{Places: places(all()...), Pairs: of(append(numbers(50, 200), late...)...).pairs()}, api.OK)
	}
}

// TestMendForm is of P13.4: one pair, at any place, that isn't under the places, or that Put doesn't take.
func TestMendForm(t *testing.T) {
	long := strings.Repeat("a", maxRecord+1)
	for _, was := range []table{{}, of("a"), of(numbers(0, 40)...)} {
		for k := range fan {
			good := of(beginning(k, 4)...).pairs()
			bad := []api.Pair{{Name: beginning((k+1)%fan, 1)[0]}, {Name: beginning((k+15)%fan, 1)[0], Value: "1"}, {Name: good[0].Name, Value: long}, {Name: good[3].Name, Value: long}, {Name: "x", Value: long}}
			for _, key := range badKeys() {
				bad = append(bad, api.Pair{Name: key}, api.Pair{Name: key, Value: long})
			}
			for i, p := range bad {
				for at := range len(good) + 1 {
					checkMend(t, was, trie.Patch{Places: places(k), Pairs: slices.Insert(slices.Clone(good), at, p)}, api.ErrForm)
				}
				if i > 1 {
					checkMend(t, was, trie.Patch{Places: places(all()...), Pairs: append(slices.Clone(good), p)}, api.ErrForm)
				}
			}
			checkMend(t, was, trie.Patch{Places: places(k), Pairs: []api.Pair{{Name: good[0].Name, Value: long[:maxRecord]}}}, api.OK)
		}
	}
}

// TestMendLast is of P13.4: of several pairs with one key the last one counts.
func TestMendLast(t *testing.T) {
	late := lateKeys()
	chance := rand.New(rand.NewSource(7))
	for _, keys := range [][]string{{"a"}, late, numbers(0, 7)} {
		for range 40 {
			var l []api.Pair
			for range chance.Intn(20) {
				l = append(l, api.Pair{Name: keys[chance.Intn(len(keys))], Value: fmt.Sprint(chance.Intn(9))})
			}
			for _, was := range []table{{}, of("a", late[0]), of(numbers(0, 9)...)} {
				checkMend(t, was, trie.Patch{Places: places(all()...), Pairs: l}, api.OK)
			}
		}
	}
}

// TestMendFull is of P13.4: as many keys behind it as there may be, and more; several with one key are one; ErrForm is ahead of ErrFull.
func TestMendFull(t *testing.T) {
	was := full()
	const k = 9
	out := was.numbered(k)
	in := of(beginning(k, len(out)+1)...).pairs()
	none := append(slices.Clone(in), api.Pair{})
	other := append(slices.Clone(in), api.Pair{Name: beginning(k+1, 1)[0]})
	checkMend(t, was, trie.Patch{Places: places(k), Pairs: in}, api.ErrFull)
	checkMend(t, was, trie.Patch{Places: places(k), Pairs: none}, api.ErrForm)
	checkMend(t, was, trie.Patch{Places: places(k), Pairs: other}, api.ErrForm)
	checkMend(t, was, trie.Patch{Places: places(k), Pairs: in[1:]}, api.OK)
	checkMend(t, was, trie.Patch{Places: places(k), Pairs: append(slices.Clone(in[1:]), in[1:]...)}, api.OK)
	checkMend(t, was, trie.Patch{Places: places(k), Pairs: out}, api.OK)
	checkMend(t, was, trie.Patch{Places: places(k), Pairs: append(slices.Clone(out), in[0])}, api.ErrFull)
	checkMend(t, was, trie.Patch{Places: places(k, k+1), Pairs: in}, api.OK)
	checkMend(t, was.without("key 0"), trie.Patch{Places: places(pathOf("key 0")[0]), Pairs: was.numbered(pathOf("key 0")[0])}, api.OK)

	every := full().pairs()
	more := append(slices.Clone(every), api.Pair{Name: "one more"})
	for _, was := range []table{{}, was, of("a")} {
		checkMend(t, was, trie.Patch{Places: places(all()...), Pairs: every}, api.OK)
		checkMend(t, was, trie.Patch{Places: places(all()...), Pairs: append(slices.Clone(every), every...)}, api.OK)
		checkMend(t, was, trie.Patch{Places: places(all()...), Pairs: more}, api.ErrFull)
		checkMend(t, was, trie.Patch{Places: places(all()...), Pairs: append(more, api.Pair{})}, api.ErrForm)
	}
	x := made(t, was)
	checkMended(t, x, made(t, of(numbers(maxKeys, 2*maxKeys)...)), was, of(numbers(maxKeys, 2*maxKeys)...))
}

// TestCopy is of P13.6: a trie and its copy, each of which goes on alone.
func TestCopy(t *testing.T) {
	for _, was := range ofNode() {
		if len(was) > 100 {
			continue
		}
		for _, do := range []func(*trie.Trie) api.Errno{
			func(x *trie.Trie) api.Errno { return x.Put("one more", "1") },
			func(x *trie.Trie) api.Errno { return x.Put("key 3", "another") },
			func(x *trie.Trie) api.Errno { return x.Put("a", "another") },
			func(x *trie.Trie) api.Errno { return x.Put(lateKeys()[0], "another") },
			func(x *trie.Trie) api.Errno { return x.Del("a") },
			func(x *trie.Trie) api.Errno { return x.Del(lateKeys()[1]) },
			func(x *trie.Trie) api.Errno { return x.Mend(trie.Patch{Places: places(all()...)}) },
			func(x *trie.Trie) api.Errno { return x.Mend(made(t, of("b")).Missing(x.Sketch())) },
		} {
			x := made(t, was)
			y := x.Copy()
			do(x)
			check(t, y, was)
			x = made(t, was)
			y = x.Copy()
			do(y)
			check(t, x, was)
			z := x.Copy()
			do(x)
			check(t, z, was)
			if nodeOf(t, x) != nodeOf(t, y) {
				t.Error("a copy does otherwise")
			}
		}
	}
}

// TestCopies is of P13.6: copies, and copies of copies, changed by chance, each by itself.
func TestCopies(t *testing.T) {
	chance := rand.New(rand.NewSource(8))
	keys := append(numbers(0, 20), lateKeys()...)
	tries, tables := []*trie.Trie{made(t, nil)}, []table{{}}
	for range 3000 {
		i := chance.Intn(len(tries))
		switch chance.Intn(9) {
		case 0:
			x, was := tries[i].Copy(), maps.Clone(tables[i])
			if len(tries) < 12 {
				tries, tables = append(tries, x), append(tables, was)
				continue
			}
			j := chance.Intn(len(tries))
			tries[j], tables[j] = x, was
		case 1:
			j := chance.Intn(len(tries))
			checkIs(t, tries[i].Mend(tries[j].Missing(tries[i].Sketch())), api.OK)
			tables[i] = maps.Clone(tables[j])
		default:
			change(t, tries[i], tables[i], chance, keys)
		}
		for i, x := range tries {
			if got := slices.Collect(x.All()); !slices.Equal(got, tables[i].pairs()) {
				t.Fatalf("trie %d: %q; want %q", i, got, tables[i].pairs())
			}
		}
		check(t, tries[i], tables[i])
		if t.Failed() {
			return
		}
	}
}

// texts are some, of memory that can be written over.
type texts struct {
	memory []byte
	was    string
}

// put answers s, of that memory.
func (m *texts) put(s string) string {
	at := len(m.was)
	copy(m.memory[at:], s)
	m.was += s
	return unsafe.String(&m.memory[at], len(s))
}

// spoil holds the memory against what was put there, and writes it over.
func (m *texts) spoil(t *testing.T) {
	t.Helper()
	if string(m.memory[:len(m.was)]) != m.was || strings.Trim(string(m.memory[len(m.was):]), "\x00") != "" {
		t.Errorf("changed: %q", m.memory)
	}
	for i := range m.memory {
		m.memory[i] = '#'
	}
}

func newTexts() *texts { return &texts{memory: make([]byte, 1000)} }

// TestMemoryIn is of P13.6: texts and lists aren't changed, nor the room behind a list's end, and may be written over behind the call.
func TestMemoryIn(t *testing.T) {
	want := of(append(numbers(0, 5), lateKeys()...)...)
	pairs := func(m *texts) []api.Pair {
		out := []api.Pair{{Name: m.put("key 0"), Value: m.put("another value")}}
		for _, p := range want.pairs() {
			out = append(out, api.Pair{Name: m.put(p.Name), Value: m.put(p.Value)})
		}
		return append(out, api.Pair{Name: m.put("behind the end"), Value: m.put("value")})
	}
	spoil := func(m *texts, l []api.Pair, was []api.Pair) {
		t.Helper()
		if !slices.Equal(l, was) {
			t.Errorf("%q; was %q", l, was)
		}
		m.spoil(t)
		clear(l)
	}

	m := newTexts()
	l := pairs(m)
	x, e := trie.New(l[:len(l)-1]...)
	checkIs(t, e, api.OK)
	spoil(m, l, pairs(newTexts()))
	check(t, x, want)

	m = newTexts()
	l = pairs(m)
	y := made(t, of("a", "b"))
	checkIs(t, y.Mend(trie.Patch{Places: places(all()...), Pairs: l[:len(l)-1]}), api.OK)
	spoil(m, l, pairs(newTexts()))
	check(t, y, want)

	for range 2 {
		for key, value := range want {
			m = newTexts()
			checkIs(t, x.Put(m.put(key), m.put(value)), api.OK)
			m.spoil(t)
			check(t, x, want)
			m = newTexts()
			if got, e := x.Get(m.put(key)); e != api.OK || got != value {
				t.Errorf("%q, %d", got, e)
			} else if m.spoil(t); got != value {
				t.Errorf("the argument's memory: %q", got)
			}
			m = newTexts()
			checkIs(t, y.Del(m.put(key)), api.OK)
			m.spoil(t)
			checkIs(t, y.Put(key, value), api.OK)
		}
		check(t, y, want)
	}

	for _, way := range [][]int{pathOf(lateKeys()[0]), pathOf("key 3"), pathOf("none")} {
		for n := range deepest + 1 {
			prefix := slices.Clone(way)
			d, _ := x.Node(prefix[:n]...)
			got, _ := x.Under(prefix[:n]...)
			if !slices.Equal(prefix, way) {
				t.Fatalf("%v; was %v", prefix, way)
			}
			for i := range prefix {
				prefix[i] = -1
			}
			if l := under(want.pairs(), pathOf, way[:n]...); d != digestOf(l, pathOf, n) || !slices.Equal(got, l) {
				t.Errorf("Under(%v): %q", way[:n], got)
			}
		}
	}
	check(t, x, want)
}

// apart tells whether no two of the texts share memory.
func apart(l []string) bool {
	slices.SortFunc(l, func(a, b string) int { return int(place(a)) - int(place(b)) })
	end := uintptr(0)
	for _, s := range l {
		if s != "" && place(s) < end {
			return false
		}
		end = max(end, place(s)+uintptr(len(s)))
	}
	return true
}

// place is where a text's memory begins.
func place(s string) uintptr { return uintptr(unsafe.Pointer(unsafe.StringData(s))) }

// textsOf answers all texts of pairs.
func textsOf(l ...api.Pair) []string {
	var out []string
	for _, p := range l {
		out = append(out, p.Name, p.Value)
	}
	return out
}

// TestMemoryOut is of P13.6: what is answered is new memory: no text or list is shared with an argument, nor with another answer, nor within one; and it may be written over.
func TestMemoryOut(t *testing.T) {
	if s := "a text"; apart([]string{s, "other", s[1:2]}) || !apart([]string{s[:2], s[2:4], s[4:], ""}) {
		t.Fatal("apart is wrong")
	}
	want := of(append(numbers(0, 20), lateKeys()...)...).with("a", "").with("b", "1").with("long", strings.Repeat("a", maxRecord))
	l := want.pairs()
	x, e := trie.New(l...)
	checkIs(t, e, api.OK)
	y := x.Copy()
	mended := made(t, nil)
	p := x.Missing(mended.Sketch())
	checkIs(t, mended.Mend(p), api.OK)
	seen := append(textsOf(l...), textsOf(p.Pairs...)...)
	lists := [][]api.Pair{l, p.Pairs}
	add := func(l []api.Pair) {
		seen = append(seen, textsOf(l...)...)
		lists = append(lists, l)
	}
	for range 2 {
		for _, x := range []*trie.Trie{x, y, mended} {
			add(slices.Collect(x.All()))
			for range 2 {
				add(x.Missing(trie.Sketch{}).Pairs)
				got, _ := x.Under()
				add(got)
				got, _ = x.Under(pathOf("a")...)
				add(got)
				seen = append(seen, trie.Diff(x, nil)...)
				seen = append(seen, trie.Diff(made(t, of("c")), x)...)
			}
			for key := range want {
				value, _ := x.Get(key)
				seen = append(seen, value)
			}
		}
	}
	if !apart(seen) {
		t.Error("texts share memory")
	}
	for i, l := range lists {
		was := slices.Clone(l)
		for j, other := range lists {
			if i != j {
				clear(other)
				_ = append(other, api.Pair{Name: "behind the end"})
			}
		}
		if !slices.Equal(l, was) {
			t.Errorf("lists share memory")
		}
	}
	keys := trie.Diff(x, nil)
	clear(keys)
	_ = append(keys, "more")
	for _, x := range []*trie.Trie{x, y, mended} {
		check(t, x, want)
		checkDiff(t, x, nil, want, nil)
	}
}

// TestMemoryWritten is of P13.6: texts that were answered may be written over.
func TestMemoryWritten(t *testing.T) {
	want := of(append(numbers(0, 5), lateKeys()...)...)
	x := made(t, want)
	y := x.Copy()
	spoil := func(l ...string) {
		for _, s := range l {
			if s != "" {
				clear(unsafe.Slice(unsafe.StringData(s), len(s)))
			}
		}
	}
	spoil(textsOf(slices.Collect(x.All())...)...)
	l, _ := x.Under()
	spoil(textsOf(l...)...)
	spoil(textsOf(x.Missing(trie.Sketch{}).Pairs...)...)
	spoil(trie.Diff(x, nil)...)
	spoil(trie.Diff(nil, x)...)
	for key := range want {
		value, _ := x.Get(key)
		spoil(value)
	}
	for p := range x.All() {
		spoil(textsOf(p)...)
	}
	check(t, x, want)
	check(t, y, want)
}

// held answers how many bytes the program holds.
func held() int {
	runtime.GC()
	runtime.GC()
	var m runtime.MemStats
	runtime.ReadMemStats(&m)
	return int(m.HeapAlloc)
}

// TestGone is of the rule that no more is kept than is promised: nothing is held of pairs that are gone, and of copies only in what they differ.
func TestGone(t *testing.T) {
	const slack = 1 << 19
	long := strings.Repeat("a", maxRecord)
	x := made(t, of("a"))
	before := held()
	for i := range 300 {
		checkIs(t, x.Put("b", long[i:]), api.OK)
		checkIs(t, x.Put(fmt.Sprint(i), long), api.OK)
		if i%2 == 0 {
			checkIs(t, x.Del(fmt.Sprint(i)), api.OK)
		} else {
			checkIs(t, x.Mend(trie.Patch{Places: places(pathOf(fmt.Sprint(i))[0])}), api.OK)
			checkIs(t, x.Put("a", "value of a"), api.OK)
		}
	}
	x.Del("b")
	check(t, x, of("a"))
	if got := held() - before; got > slack {
		t.Errorf("%d bytes are held", got)
	}
	y := made(t, full().with("key 0", long))
	before = held()
	var copies []*trie.Trie
	for i := range 100 {
		z := y.Copy()
		checkIs(t, z.Put("key 1", fmt.Sprint(i)), api.OK)
		copies = append(copies, z)
	}
	if got := held() - before; got > slack {
		t.Errorf("of copies %d bytes are held", got)
	}
	runtime.KeepAlive(copies)
	runtime.KeepAlive(x)
	runtime.KeepAlive(y)
}

// TestNil is of a nil trie: ErrNil ahead of all errors, else what an empty one answers.
func TestNil(t *testing.T) {
	var x *trie.Trie
	for range 2 {
		for _, key := range append(badKeys(), goodKeys()...) {
			for _, value := range append(longTexts(), "", "value") {
				checkIs(t, x.Put(key, value), api.ErrNil)
			}
			checkIs(t, x.Del(key), api.ErrNil)
			checkGet(t, x, key, "", api.ErrNil)
		}
		for _, prefix := range [][]int{nil, {}, {0}, {15}, {16}, {-1}, {least}, {greatest, 0}, make([]int, deepest), make([]int, deepest+1)} {
			checkNo(t, x, api.ErrNil, prefix...)
		}
		for _, p := range []trie.Patch{{}, {Places: places(all()...)}, {Pairs: of("a").pairs()}, {Places: places(all()...), Pairs: of("a").pairs()}, {Places: places(all()...), Pairs: full().with("one more", "").pairs()}} {
			checkIs(t, x.Mend(p), api.ErrNil)
		}
	}
	if n := x.Count(); n != 0 {
		t.Errorf("Count: %d", n)
	}
	for p := range x.All() {
		t.Errorf("All: %q", p)
	}
	if y := x.Copy(); y != nil {
		t.Error("Copy: a trie")
	}
	if s := x.Sketch(); s != (trie.Sketch{}) {
		t.Errorf("Sketch: %x", s)
	}
	if p := x.Missing(trie.Sketch{}); !samePatch(p, trie.Patch{}) {
		t.Errorf("Missing: %v", p)
	}
	for k := range fan {
		var s trie.Sketch
		s[k][31] = 1
		if p := x.Missing(s); !samePatch(p, trie.Patch{Places: places(k)}) {
			t.Errorf("Missing: %v", p)
		}
	}
	empty := made(t, nil)
	for _, two := range [][2]*trie.Trie{{x, x}, {x, empty}, {empty, x}} {
		if got := trie.Diff(two[0], two[1]); len(got) != 0 {
			t.Errorf("Diff: %q", got)
		}
	}
}

// TestEnds is of P1: every call of every kind of trie, of all kinds of arguments.
func TestEnds(t *testing.T) {
	keys := append(badKeys(), goodKeys()...)
	values := append(longTexts(), "", "value", strings.Repeat("a", maxRecord))
	var prefixes [][]int
	for _, k := range []int{least, -1 << 32, -1, 0, 1, 15, 16, 1 << 32, greatest} {
		for _, n := range []int{0, 1, 2, 63, 64, 65, 1000, 1 << 16} {
			prefixes = append(prefixes, slices.Repeat([]int{k}, n))
		}
	}
	l := []api.Pair{}
	for _, key := range keys {
		l = append(l, api.Pair{Name: key}, api.Pair{Name: key, Value: values[0]})
	}
	tries := []*trie.Trie{nil, made(t, nil), made(t, of("a")), made(t, of(lateKeys()...)), made(t, full())}
	for _, x := range tries {
		for _, key := range keys {
			for _, value := range values {
				x.Put(key, value)
			}
			x.Get(key)
			x.Del(key)
		}
		for _, prefix := range prefixes {
			x.Node(prefix...)
			x.Under(prefix...)
		}
		for _, p := range []trie.Patch{{}, {Pairs: l}, {Places: places(all()...), Pairs: l}, {Places: places(3, 4), Pairs: nil}} {
			x.Mend(p)
		}
		for _, y := range tries {
			trie.Diff(x, y)
			x.Copy().Mend(y.Missing(x.Sketch()))
		}
		trie.New(l...)
		x.Missing(trie.Sketch{3: {1}})
		if n := len(slices.Collect(x.All())); n != x.Count() {
			t.Errorf("%d of %d", n, x.Count())
		}
	}
	huge := strings.Repeat("a", 1<<28)
	x := made(t, of("a"))
	checkIs(t, x.Put(huge, huge), api.ErrArg)
	checkIs(t, x.Put("a", huge), api.ErrLong)
	checkIs(t, x.Del(huge), api.ErrNone)
	checkGet(t, x, huge, "", api.ErrNone)
	checkIs(t, x.Mend(trie.Patch{Places: places(all()...), Pairs: slices.Repeat([]api.Pair{{Name: huge}}, 1<<16)}), api.ErrForm)
	checkIs(t, x.Mend(trie.Patch{Places: places(all()...), Pairs: slices.Repeat([]api.Pair{{Name: "a", Value: "1"}}, 1<<14)}), api.OK)
	check(t, x, table{"a": "1"})
}
