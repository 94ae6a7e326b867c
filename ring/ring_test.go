package ring_test

import (
	"crypto/sha256"
	"encoding/binary"
	"fmt"
	"math"
	"math/rand"
	"slices"
	"sort"
	"strings"
	"testing"
	"unsafe"

	"signet/api"
	"signet/ring"
)

const (
	least    = math.MinInt
	greatest = math.MaxInt

	maxName    = 64
	maxRegions = 8
	maxPoints  = 64
)

// The face, as the chapter has it.
var (
	_ func(points int, names ...string) (*ring.Ring, api.Errno)   = ring.New
	_ func(r *ring.Ring) []string                                 = (*ring.Ring).Names
	_ func(r *ring.Ring) []api.Point                              = (*ring.Ring).Points
	_ func(r *ring.Ring, key string) int                          = (*ring.Ring).Owner
	_ func(r *ring.Ring, key string) []int                        = (*ring.Ring).Order
	_ func(r *ring.Ring, name string) (_ *ring.Ring, _ api.Errno) = (*ring.Ring).With
	_ func(r *ring.Ring, name string) (_ *ring.Ring, _ api.Errno) = (*ring.Ring).Without
)

// placeOf answers a text's place, by the library's own digest.
func placeOf(s string) uint64 {
	d := sha256.Sum256([]byte(s))
	return binary.BigEndian.Uint64(d[:])
}

// spot is a point by the chapter's words, with its region's name.
type spot struct {
	at   uint64
	name string
}

// spotsOf answers all points, as they stand: sixteen signs of one number are in order as the number is, and what is behind them as the name is.
func spotsOf(points int, names ...string) []spot {
	named := map[string]spot{}
	var order []string
	for _, name := range names {
		for k := 0; k < points; k++ {
			s := spot{at: placeOf(fmt.Sprintf("%s#%d", name, k)), name: name}
			text := fmt.Sprintf("%016x %s", s.at, name)
			named[text] = s
			order = append(order, text)
		}
	}
	sort.Strings(order)
	var out []spot
	for _, text := range order {
		out = append(out, named[text])
	}
	return out
}

// orderOf answers the regions' names, as their first points come behind a key's place.
func orderOf(spots []spot, key string) []string {
	at := placeOf(key)
	var behind, ahead []string
	for _, s := range spots {
		if s.at >= at {
			behind = append(behind, s.name)
		} else {
			ahead = append(ahead, s.name)
		}
	}
	var out []string
	come := map[string]bool{}
	for _, name := range append(behind, ahead...) {
		if !come[name] {
			out = append(out, name)
		}
		come[name] = true
	}
	return out
}

// numbersOf answers the numbers that names have among all.
func numbersOf(all, names []string) []int {
	var out []int
	for _, name := range names {
		out = append(out, slices.Index(all, name))
	}
	return out
}

// made answers a ring that is surely made.
func made(t *testing.T, points int, names ...string) *ring.Ring {
	t.Helper()
	r, e := ring.New(points, names...)
	if e != api.OK || r == nil {
		t.Fatalf("New(%d, %q): %v, %d", points, names, r, e)
	}
	return r
}

// checkNone holds that there is no ring, and why.
func checkNone(t *testing.T, r *ring.Ring, e, want api.Errno) {
	t.Helper()
	if r != nil || e != want {
		t.Errorf("%v, %d; want none, %d", r, e, want)
	}
}

// checkKey holds what a ring answers of a key against the definition.
func checkKey(t *testing.T, r *ring.Ring, spots []spot, key string, names []string) {
	t.Helper()
	want := numbersOf(names, orderOf(spots, key))
	if got := r.Owner(key); got != want[0] {
		t.Errorf("Owner(%.80q) of %q: %d; want %d", key, names, got, want[0])
	}
	if got := r.Order(key); !slices.Equal(got, want) {
		t.Errorf("Order(%.80q) of %q: %v; want %v", key, names, got, want)
	}
}

// checkPoints holds a ring's points against the definition.
func checkPoints(t *testing.T, r *ring.Ring, spots []spot, names []string) {
	t.Helper()
	var want []api.Point
	for _, s := range spots {
		want = append(want, api.Point{At: s.at, Region: slices.Index(names, s.name)})
	}
	if got := r.Points(); !slices.Equal(got, want) {
		t.Errorf("Points() of %q: %v; want %v", names, got, want)
	}
}

// check holds all that a ring answers against the definition.
func check(t *testing.T, r *ring.Ring, points int, names []string, keys ...string) {
	t.Helper()
	if got := r.Names(); !slices.Equal(got, names) {
		t.Errorf("Names(): %q; want %q", got, names)
	}
	spots := spotsOf(points, names...)
	checkPoints(t, r, spots, names)
	for _, key := range keys {
		checkKey(t, r, spots, key, names)
	}
}

// numbered answers so many unlike texts.
func numbered(count int) []string {
	var out []string
	for k := range count {
		out = append(out, fmt.Sprint("key ", k))
	}
	return out
}

// oddTexts are of all lengths, and of bytes that are no text.
func oddTexts() []string {
	out := []string{"", "\x00", "#", "##", "#0", "\xff\xfe", "\xc3", "é", "a\x00b", " ", strings.Repeat("\xff", 40), strings.Repeat("k", 1<<12)}
	for n := range 140 {
		out = append(out, strings.Repeat("e", n))
	}
	for b := range 256 {
		out = append(out, string([]byte{byte(b)}))
	}
	return out
}

// pointTexts are the texts whose places are the points, and those beside them.
func pointTexts(points int, names ...string) []string {
	var out []string
	for _, name := range names {
		out = append(out, name, name+"#", name+"#-1", name+"#00", name+"#01", name+"# 1", name+"1")
		for k := range points + 1 {
			out = append(out, fmt.Sprint(name, "#", k))
		}
	}
	return out
}

// namesOf answers lists of regions' names: plain ones, falling ones, ones that look like points, ones that are much alike, ones of bytes that are no text, the longest.
func namesOf() [][]string {
	return [][]string{
		{"eu", "us", "ap", "sa", "af", "me", "ca", "cn"},
		{"8", "7", "6", "5", "4", "3", "2", "1"},
		{"a", "a#", "a#1", "a#1#0", "#", "#0", "##", "a#01"},
		{"a", "A", "aa", "a ", " a", "a\x00", "\x00a", "\x00"},
		{"\xff", "\xfe", "\xff\xff", "\x80", "\xc3\xa9", "\xc3", "é#", "\x7f"},
		{strings.Repeat("a", maxName), strings.Repeat("a", maxName-1), strings.Repeat("a", maxName-1) + "b", strings.Repeat("\xff", maxName), strings.Repeat("\x00", maxName), strings.Repeat("#", maxName), "b" + strings.Repeat("a", maxName-1), "a"},
	}
}

// TestExample is the chapter's.
func TestExample(t *testing.T) {
	r := made(t, 1, "eu")
	for _, key := range append(oddTexts(), pointTexts(1, "eu")...) {
		if got := r.Owner(key); got != 0 {
			t.Errorf("Owner(%.80q): %d", key, got)
		}
	}
	for _, c := range []struct {
		points int
		names  []string
	}{{0, []string{"eu"}}, {1, nil}, {1, []string{"eu", "eu"}}, {1, []string{""}}} {
		r, e := ring.New(c.points, c.names...)
		checkNone(t, r, e, api.ErrArg)
	}
}

// TestSpelt is of P14.1 and P14.2, by digests that stand here spelt out: those of eu#0 ab43c45d6db3ce51.., of eu#1 8fbd7e1f3a68d3ad.., of us#0 28727b63bb7dc5f5.., of us#1 729673ba1f242a20..
func TestSpelt(t *testing.T) {
	r := made(t, 2, "eu", "us")
	want := []api.Point{{At: 0x28727b63bb7dc5f5, Region: 1}, {At: 0x729673ba1f242a20, Region: 1}, {At: 0x8fbd7e1f3a68d3ad, Region: 0}, {At: 0xab43c45d6db3ce51, Region: 0}}
	if got := r.Points(); !slices.Equal(got, want) {
		t.Errorf("%x", got)
	}
	// The digest of a begins with ca9781.., that of b with 3e23e8.., that of abc with ba7816.., that of none with e3b0c4.., that of 1 with 6b86b2.., that of 7 with 7902699b.., that of 0 with 5feceb..
	for key, want := range map[string][]int{"a": {1, 0}, "b": {1, 0}, "abc": {1, 0}, "": {1, 0}, "1": {1, 0}, "7": {0, 1}, "0": {1, 0}, "eu#0": {0, 1}, "eu#1": {0, 1}, "us#0": {1, 0}, "us#1": {1, 0}} {
		if got := r.Order(key); !slices.Equal(got, want) || r.Owner(key) != want[0] {
			t.Errorf("%q: %v, %d; want %v", key, got, r.Owner(key), want)
		}
	}
}

// TestCounts is of P14.1: how many points a region may have, by how many regions.
func TestCounts(t *testing.T) {
	odd := []int{least, least + 1, -1 << 32, -maxPoints, -2, -1, 0, maxPoints + 1, maxPoints + 2, 1 << 31, 1 << 32, 1<<32 + 1, 1<<32 + maxPoints, greatest - 1, greatest}
	for count := 0; count <= maxRegions+2; count++ {
		names := numbered(count)
		for _, points := range odd {
			r, e := ring.New(points, names...)
			checkNone(t, r, e, api.ErrArg)
		}
		for points := 1; points <= maxPoints; points++ {
			if count >= 1 && count <= maxRegions {
				check(t, made(t, points, names...), points, names)
				continue
			}
			r, e := ring.New(points, names...)
			checkNone(t, r, e, api.ErrArg)
		}
	}
	for _, count := range []int{16, 255, 256, 257, 264, 1 << 16, 1<<16 + 1} {
		r, e := ring.New(1, numbered(count)...)
		checkNone(t, r, e, api.ErrArg)
		r, e = ring.New(1, make([]string, count)...)
		checkNone(t, r, e, api.ErrArg)
	}
}

// TestNames is of P14.1: what a name may be, wherever it stands.
func TestNames(t *testing.T) {
	none := []string{"", strings.Repeat("a", maxName+1), strings.Repeat("\x00", maxName+1), strings.Repeat("é", maxName/2) + "a", strings.Repeat("a", 2*maxName), strings.Repeat("a", 256), strings.Repeat("a", 257), strings.Repeat("a", 1<<16+1), strings.Repeat("a", 1<<20)}
	good := []string{"\x00", "\xff", " ", "#", strings.Repeat("a", maxName-1), strings.Repeat("a", maxName), strings.Repeat("é", maxName/2), strings.Repeat("\xff", maxName), strings.Repeat("\x00", maxName)}
	for b := range 256 {
		good = append(good, string([]byte{byte(b)}))
	}
	for n := 2; n < maxName; n++ {
		good = append(good, strings.Repeat("n", n))
	}
	for count := 1; count <= maxRegions; count++ {
		for at := range count {
			names := numbered(count)
			for _, name := range none {
				names[at] = name
				r, e := ring.New(3, names...)
				checkNone(t, r, e, api.ErrArg)
			}
			for _, name := range good {
				names[at] = name
				check(t, made(t, 3, names...), 3, names)
			}
		}
	}
}

// TestSame is of P14.1: no two names are the same, next to one another or apart; but they may be much alike.
func TestSame(t *testing.T) {
	for _, all := range namesOf() {
		for count := 2; count <= maxRegions; count++ {
			for at := range count {
				for other := range at {
					names := slices.Clone(all[:count])
					names[at] = strings.Clone(names[other])
					r, e := ring.New(2, names...)
					checkNone(t, r, e, api.ErrArg)
				}
			}
			check(t, made(t, 2, all[:count]...), 2, all[:count])
		}
	}
	r, e := ring.New(1, slices.Repeat([]string{"a"}, maxRegions)...)
	checkNone(t, r, e, api.ErrArg)
}

// TestPoints is of P14.1: all points, rising, each with its region's number.
func TestPoints(t *testing.T) {
	for _, all := range namesOf() {
		for count := 1; count <= maxRegions; count++ {
			for _, points := range []int{1, 2, 9, 10, 11, 63, maxPoints} {
				names := all[:count]
				r := made(t, points, names...)
				check(t, r, points, names)
				l := r.Points()
				of := make([]int, count)
				for k, p := range l {
					if of[p.Region]++; k > 0 && l[k-1].At > p.At {
						t.Errorf("%x is ahead of %x", l[k-1].At, p.At)
					}
				}
				if slices.Min(of) != points || slices.Max(of) != points {
					t.Errorf("%d points a region: %v", points, of)
				}
			}
		}
	}
}

// TestKeys is of P14.2: the owner and the order of many keys, by rings of all sizes; each region once.
func TestKeys(t *testing.T) {
	for _, all := range namesOf() {
		for _, count := range []int{1, 2, 3, 5, maxRegions} {
			for _, points := range []int{1, 2, 11, maxPoints} {
				names := all[:count]
				r := made(t, points, names...)
				keys := append(numbered(100), pointTexts(points, names...)...)
				if points < maxPoints {
					keys = append(keys, oddTexts()...)
				}
				check(t, r, points, names, keys...)
				for _, key := range keys {
					if got := r.Order(key); len(got) != count || !slices.Equal(slices.Sorted(slices.Values(got)), upTo(count)) || got[0] != r.Owner(key) {
						t.Errorf("Order(%.80q): %v", key, got)
					}
				}
			}
		}
	}
}

// upTo answers the numbers of so many regions.
func upTo(count int) []int {
	var out []int
	for k := range count {
		out = append(out, k)
	}
	return out
}

// TestLongKeys is of P14.2: keys have no bound.
func TestLongKeys(t *testing.T) {
	names := namesOf()[0]
	r := made(t, maxPoints, names...)
	for _, length := range []int{1 << 14, 1<<14 + 1, 1 << 16, 1<<16 + 1, 1 << 20, 1<<24 + 1} {
		check(t, r, maxPoints, names, strings.Repeat("k", length), strings.Repeat("\xff", length))
	}
}

// TestEnds is of P14.2: keys whose place is below the first point, above the last one, or a point's.
func TestEnds(t *testing.T) {
	const tries = 100000
	low, high := "", ""
	for _, key := range numbered(tries) {
		if low == "" || placeOf(key) < placeOf(low) {
			low = key
		}
		if high == "" || placeOf(key) > placeOf(high) {
			high = key
		}
	}
	for _, names := range namesOf() {
		for _, count := range []int{1, 2, maxRegions} {
			for _, points := range []int{1, 3, maxPoints} {
				names := names[:count]
				r := made(t, points, names...)
				l := r.Points()
				first, last := l[0], l[len(l)-1]
				if placeOf(low) >= first.At || placeOf(high) <= last.At {
					t.Fatalf("%x, %x: the keys' places are %x, %x", first.At, last.At, placeOf(low), placeOf(high))
				}
				if r.Owner(low) != first.Region || r.Owner(high) != first.Region {
					t.Errorf("%d, %d; want the first point's, %d", r.Owner(low), r.Owner(high), first.Region)
				}
				if !slices.Equal(r.Order(low), r.Order(high)) {
					t.Errorf("%v, %v", r.Order(low), r.Order(high))
				}
				for region, name := range names {
					for k := range points {
						if got := r.Owner(fmt.Sprint(name, "#", k)); got != region {
							t.Errorf("the owner of %q's point %d: %d; want %d", name, k, got, region)
						}
					}
				}
				check(t, r, points, names, low, high)
			}
		}
	}
}

// TestAround is of P14.2: the order is that of the ways from the key's place on to each region's next point, around the ring.
func TestAround(t *testing.T) {
	for _, names := range namesOf() {
		for _, points := range []int{1, 5, maxPoints} {
			r := made(t, points, names...)
			for _, key := range append(numbered(200), names...) {
				at := placeOf(key)
				way := make([]uint64, len(names))
				for region, name := range names {
					way[region] = math.MaxUint64
					for k := range points {
						way[region] = min(way[region], placeOf(fmt.Sprint(name, "#", k))-at)
					}
				}
				for k, got := 1, r.Order(key); k < len(got); k++ {
					if way[got[k-1]] >= way[got[k]] {
						t.Errorf("Order(%q): %v", key, got)
					}
				}
			}
		}
	}
}

// twins are two names each, the lesser one first, whose points 0 have one place (found by many tries): the first ones are of one length; of the others the lesser one is the longer one, and the greater one begins with a byte above 127.
func twins() [][2]string {
	return [][2]string{
		{"76127c81fe131f50", "ae86536a8dda59ef"},
		{"f )\xcc\xb2i\xabix", "\xa6\xbd>\xc0'\x0f\xea\xdc"},
	}
}

// TestOnePlace is of P14.1, P14.2 and P14.4: of one place the lesser name comes first, however the names are handed in.
func TestOnePlace(t *testing.T) {
	for _, pair := range twins() {
		low, high := pair[0], pair[1]
		if placeOf(low+"#0") != placeOf(high+"#0") || low >= high {
			t.Fatalf("%q are no twins", pair)
		}
		keys := append(numbered(50), low+"#0", high+"#0", low+"#1", high+"#1")
		for _, points := range []int{1, 2, maxPoints} {
			for _, names := range [][]string{{low, high}, {high, low}, {"eu", low, high}, {high, "eu", low}, {high, low, "eu", "us", "ap"}, {"us", low, "ap", "eu", high}} {
				r := made(t, points, names...)
				check(t, r, points, names, keys...)
				owner := slices.Index(names, low)
				if points == 1 && len(names) == 2 {
					for _, key := range keys {
						if got := r.Owner(key); got != owner {
							t.Errorf("Owner(%q) of %q: %d", key, names, got)
						}
					}
				}
				for _, key := range []string{low + "#0", high + "#0"} {
					if got := r.Order(key); got[0] != owner || names[got[1]] != high {
						t.Errorf("Order(%q) of %q: %v", key, names, got)
					}
				}
				less, e := r.Without(low)
				if e != api.OK || less.Names()[less.Owner(low+"#0")] != high {
					t.Errorf("without %q: %d", low, e)
				}
			}
			r := made(t, points, low)
			if got := r.Order(high + "#0"); !slices.Equal(got, []int{0}) {
				t.Errorf("%v", got)
			}
			more, e := made(t, points, high, "eu").With(low)
			if e != api.OK || more.Owner(high+"#0") != 2 {
				t.Errorf("with %q: %d", low, e)
			}
			more, e = made(t, points, low, "eu").With(high)
			if e != api.OK || more.Owner(high+"#0") != 0 {
				t.Errorf("with %q: %d", high, e)
			}
		}
	}
}

// TestBeside is of P14.2: a point that is below a key's place by one alone comes last (a name and a key that were found by many tries).
func TestBeside(t *testing.T) {
	const name, key = "dbe9fe9d55b6d476", "cf8abc0186d0eb33"
	if placeOf(key) != placeOf(name+"#0")+1 {
		t.Fatalf("%x, %x", placeOf(key), placeOf(name+"#0"))
	}
	for _, names := range [][]string{{name}, {name, "eu"}, {"eu", name}, {"eu", "us", name, "ap"}} {
		for _, points := range []int{1, 2, maxPoints} {
			r := made(t, points, names...)
			check(t, r, points, names, key, name+"#0")
			got, last := r.Order(key), slices.Index(names, name)
			if points == 1 && (got[len(got)-1] != last || r.Order(name + "#0")[0] != last) {
				t.Errorf("%q: %v, %v", names, got, r.Order(name+"#0"))
			}
		}
	}
}

// TestWith is of P14.3: a ring with a region more, or the error that New has; the ring stays as it is.
func TestWith(t *testing.T) {
	for _, all := range namesOf() {
		for count := 1; count <= maxRegions; count++ {
			for _, points := range []int{1, 2, 63, maxPoints} {
				names := slices.Clone(all[:count])
				keys := append(numbered(20), all...)
				r := made(t, points, names...)
				for _, name := range append(slices.Clone(names), "", strings.Repeat("b", maxName+1), strings.Repeat("b", 1<<16)) {
					more, e := r.With(name)
					checkNone(t, more, e, api.ErrArg)
				}
				for _, name := range append(slices.Clone(all[count:]), "more", "\x01", strings.Repeat("c", maxName)) {
					more, e := r.With(name)
					if count == maxRegions {
						checkNone(t, more, e, api.ErrArg)
						continue
					}
					if e != api.OK || more == nil {
						t.Fatalf("With(%q): %d", name, e)
					}
					check(t, more, points, append(slices.Clone(names), name), keys...)
				}
				check(t, r, points, names, keys...)
			}
		}
	}
}

// TestWithout is of P14.3: a ring without a region; the ring stays as it is.
func TestWithout(t *testing.T) {
	for _, all := range namesOf() {
		for count := 1; count <= maxRegions; count++ {
			for _, points := range []int{1, 2, 63, maxPoints} {
				names := slices.Clone(all[:count])
				keys := append(numbered(20), all...)
				r := made(t, points, names...)
				for _, name := range append(slices.Clone(all[count:]), "", "more", names[0]+"x", strings.Repeat("b", maxName+1), strings.Repeat("b", 1<<16)) {
					less, e := r.Without(name)
					checkNone(t, less, e, api.ErrNone)
				}
				for at, name := range names {
					less, e := r.Without(name)
					if count == 1 {
						checkNone(t, less, e, api.ErrArg)
						continue
					}
					if e != api.OK || less == nil {
						t.Fatalf("Without(%q): %d", name, e)
					}
					check(t, less, points, slices.Delete(slices.Clone(names), at, at+1), keys...)
				}
				check(t, r, points, names, keys...)
			}
		}
	}
}

// TestMoved is of P14.4: by With a key stays, or goes to the new region; by Without those of the region that is gone go to the next in their Order.
func TestMoved(t *testing.T) {
	keys := append(numbered(400), oddTexts()...)
	for _, all := range append(namesOf(), []string{"eu", twins()[0][1], "us", twins()[0][0], "ap"}) {
		for _, points := range []int{1, 4, maxPoints} {
			r := made(t, points, all[0])
			for count := 1; count < len(all); count++ {
				more, e := r.With(all[count])
				if e != api.OK {
					t.Fatal(e)
				}
				checkMoved(t, r, more, keys)
				for at := range count + 1 {
					less, e := more.Without(all[at])
					if e != api.OK {
						t.Fatal(e)
					}
					checkGone(t, more, less, at, keys)
				}
				r = more
			}
		}
	}
}

// checkMoved holds that keys stay, or go to the last region of more.
func checkMoved(t *testing.T, r, more *ring.Ring, keys []string) {
	t.Helper()
	names, others := r.Names(), more.Names()
	stay, move := 0, 0
	for _, key := range keys {
		was, is := names[r.Owner(key)], others[more.Owner(key)]
		switch is {
		case was:
			stay++
		case others[len(names)]:
			move++
		default:
			t.Errorf("%q of %q: %q; was %q", key, others, is, was)
		}
	}
	if len(r.Points()) >= maxPoints && (stay == 0 || move == 0) {
		t.Errorf("%q: %d stay, %d move", others, stay, move)
	}
}

// checkGone holds that keys stay, but for those of the region that is gone.
func checkGone(t *testing.T, r, less *ring.Ring, gone int, keys []string) {
	t.Helper()
	names, others := r.Names(), less.Names()
	for _, key := range keys {
		order := r.Order(key)
		want := order[0]
		if want == gone {
			want = order[1]
		}
		if is := others[less.Owner(key)]; is != names[want] {
			t.Errorf("%q of %q without %q: %q; want %q", key, names, names[gone], is, names[want])
		}
		var rest []string
		for _, region := range order {
			if region != gone {
				rest = append(rest, names[region])
			}
		}
		if got := less.Order(key); !slices.Equal(got, numbersOf(others, rest)) {
			t.Errorf("Order(%q) of %q: %v; was %v of %q", key, others, got, order, names)
		}
	}
}

// orders hands on all orders of l.
func orders(l []string, yield func([]string)) {
	if len(l) <= 1 {
		yield(slices.Clone(l))
		return
	}
	for k := range l {
		rest := slices.Delete(slices.Clone(l), k, k+1)
		orders(rest, func(o []string) { yield(append(o, l[k])) })
	}
}

// TestOrders is of P14.4: the order in which the names are handed in changes nobody's owner, and no order, by their names.
func TestOrders(t *testing.T) {
	pair := twins()[0]
	for _, c := range []struct {
		points int
		names  []string
		keys   []string
	}{
		{1, []string{"eu", "us", "ap", "sa", "af", "me", "ca"}, numbered(15)},
		{maxPoints, []string{"eu", "us", "ap", "sa"}, numbered(100)},
		{3, []string{"a", "a#1", "a#", "\xff", "A"}, numbered(100)},
		{2, []string{pair[0], pair[1], "eu", "us"}, append(numbered(30), pair[0]+"#0", pair[1]+"#0")},
	} {
		spots := spotsOf(c.points, c.names...)
		want := map[string][]string{}
		for _, key := range c.keys {
			want[key] = orderOf(spots, key)
		}
		orders(c.names, func(names []string) {
			r := made(t, c.points, names...)
			for _, key := range c.keys {
				if got := r.Order(key); !slices.Equal(got, numbersOf(names, want[key])) || r.Owner(key) != got[0] {
					t.Fatalf("%q of %q: %v, %d; want %q", key, names, got, r.Owner(key), want[key])
				}
			}
		})
	}
}

// TestByChance is of P14.1 to P14.3: rings that regions come to and go from, each held against the definition, and still so behind all others.
func TestByChance(t *testing.T) {
	chance := rand.New(rand.NewSource(14))
	all := append(slices.Concat(namesOf()[0], namesOf()[2]), "", strings.Repeat("a", maxName+1))
	type state struct {
		r     *ring.Ring
		names []string
	}
	for range 30 {
		points := 1 + chance.Intn(maxPoints)
		states := []state{{made(t, points, "eu"), []string{"eu"}}}
		for range 60 {
			s := states[chance.Intn(len(states))]
			name := all[chance.Intn(len(all))]
			at := slices.Index(s.names, name)
			if chance.Intn(3) == 0 {
				less, e := s.r.Without(name)
				switch {
				case at < 0:
					checkNone(t, less, e, api.ErrNone)
				case len(s.names) == 1:
					checkNone(t, less, e, api.ErrArg)
				default:
					states = append(states, state{less, slices.Delete(slices.Clone(s.names), at, at+1)})
				}
				continue
			}
			more, e := s.r.With(name)
			if at >= 0 || len(s.names) == maxRegions || name == "" || len(name) > maxName {
				checkNone(t, more, e, api.ErrArg)
				continue
			}
			states = append(states, state{more, append(slices.Clone(s.names), name)})
		}
		for _, s := range states {
			check(t, s.r, points, s.names, numbered(3)...)
		}
	}
}

// texts are some, of memory that can be written over.
type texts struct {
	memory []byte
	was    string
}

// put answers s, of that memory.
func (m *texts) put(s string) string {
	at := len(m.was)
	copy(m.memory[at:], s)
	m.was += s
	return unsafe.String(&m.memory[at], len(s))
}

// spoil holds the memory against what was put there, and writes it over.
func (m *texts) spoil(t *testing.T) {
	t.Helper()
	if string(m.memory[:len(m.was)]) != m.was || strings.Trim(string(m.memory[len(m.was):]), "\x00") != "" {
		t.Errorf("changed: %q", m.memory)
	}
	for i := range m.memory {
		m.memory[i] = '!'
	}
}

func newTexts() *texts { return &texts{memory: make([]byte, 1000)} }

// TestMemoryIn is of P14.5: the names, their list and the room behind its end aren't changed, and may be written over behind the call; keys likewise.
func TestMemoryIn(t *testing.T) {
	names := []string{"us", "eu", "ap", "sa"}
	keys := append(numbered(20), names...)
	for count := 1; count <= len(names); count++ {
		m := newTexts()
		var l []string
		for _, name := range append(slices.Clone(names), "behind", "the end") {
			l = append(l, m.put(name))
		}
		was := append(slices.Clone(names), "behind", "the end")
		r := made(t, 5, l[:count]...)
		if !slices.Equal(l, was) {
			t.Errorf("%q; was %q", l, was)
		}
		m.spoil(t)
		clear(l)
		check(t, r, 5, names[:count], keys...)

		m = newTexts()
		more, e := r.With(m.put("new"))
		if e != api.OK {
			t.Fatal(e)
		}
		m.spoil(t)
		check(t, more, 5, append(slices.Clone(names[:count]), "new"), keys...)

		m = newTexts()
		less, e := more.Without(m.put(names[0]))
		if e != api.OK {
			t.Fatal(e)
		}
		m.spoil(t)
		check(t, less, 5, append(slices.Clone(names[1:count]), "new"), keys...)

		for _, key := range keys {
			m = newTexts()
			owner, order := r.Owner(m.put(key)), r.Order(m.put(key))
			m.spoil(t)
			if want := r.Order(key); owner != want[0] || !slices.Equal(order, want) {
				t.Errorf("%q: %d, %v; want %v", key, owner, order, want)
			}
		}
		check(t, r, 5, names[:count], keys...)
	}
	l := []string{"eu", "eu", "us"}
	if r, e := ring.New(1, l[:2]...); r != nil || e != api.ErrArg || !slices.Equal(l, []string{"eu", "eu", "us"}) {
		t.Errorf("%v, %d, %q", r, e, l)
	}
}

// TestMemoryOut is of P14.5: what is answered is new memory, and may be written over, lists and names.
func TestMemoryOut(t *testing.T) {
	names := []string{"us", "eu", "ap", "sa"}
	keys := numbered(20)
	r := made(t, 7, names...)
	more, e := r.With("new")
	if e != api.OK {
		t.Fatal(e)
	}
	less, e := r.Without("us")
	if e != api.OK {
		t.Fatal(e)
	}
	again := made(t, 7, names...)
	checkAll := func() {
		t.Helper()
		check(t, r, 7, names, keys...)
		check(t, again, 7, names, keys...)
		check(t, more, 7, append(slices.Clone(names), "new"), keys...)
		check(t, less, 7, names[1:], keys...)
	}
	for _, r := range []*ring.Ring{r, more, less, again} {
		for _, spoiled := range []*ring.Ring{r, r, again} {
			l, others := spoiled.Names(), r.Names()
			was := slices.Clone(others)
			for k, s := range others {
				was[k] = strings.Clone(s)
			}
			for _, s := range l {
				clear(unsafe.Slice(unsafe.StringData(s), len(s)))
			}
			clear(l)
			_ = append(l, "behind the end")
			if !slices.Equal(others, was) {
				t.Errorf("Names() share memory: %q", others)
			}
			checkAll()

			p, q := spoiled.Points(), r.Points()
			kept := slices.Clone(q)
			clear(p)
			_ = append(p, api.Point{At: 1, Region: 1})
			if !slices.Equal(q, kept) {
				t.Errorf("Points() share memory: %v", q)
			}
			checkAll()

			for _, key := range keys {
				o, other := spoiled.Order(key), r.Order(key)
				kept := slices.Clone(other)
				for k := range o {
					o[k] = -1
				}
				_ = append(o, -1, -1, -1)
				if !slices.Equal(other, kept) {
					t.Errorf("Order(%q) share memory: %v", key, other)
				}
			}
			checkAll()
		}
	}
}

// TestNil is of P14.5: every call of a nil ring.
func TestNil(t *testing.T) {
	var r *ring.Ring
	if got := r.Names(); len(got) != 0 {
		t.Errorf("Names(): %q", got)
	}
	if got := r.Points(); len(got) != 0 {
		t.Errorf("Points(): %v", got)
	}
	for _, key := range append(oddTexts(), numbered(10)...) {
		if got := r.Owner(key); got != -1 {
			t.Errorf("Owner(%.80q): %d", key, got)
		}
		if got := r.Order(key); len(got) != 0 {
			t.Errorf("Order(%.80q): %v", key, got)
		}
		more, e := r.With(key)
		checkNone(t, more, e, api.ErrNil)
		less, e := r.Without(key)
		checkNone(t, less, e, api.ErrNil)
	}
}
