package grant_test

import (
	"fmt"
	"math"
	"math/rand"
	"slices"
	"strings"
	"testing"

	"signet/api"
	"signet/grant"
)

// TestNew is of P17.1: how much room a book has.
func TestNew(t *testing.T) {
	for room := 1; room <= maxFamilies; room++ {
		check(t, made(t, room), room, nil)
	}
	for _, room := range []int{0, -1, -2, -255, -256, -257, 257, 258, 511, 512, 513, 1 << 16, 1<<16 + 1, 1 << 32, 1<<32 + 1, math.MaxInt, math.MinInt, math.MinInt + 1} {
		if b, e := grant.New(room); b != nil || e != api.ErrArg {
			t.Errorf("New(%d): %v, %d", room, b, e)
		}
	}
}

// ids are some that sort unlike numbers, and unlike words of any case.
func ids() []string {
	return []string{"-", "--", "-f", "0", "00", "1", "10", "2", "9", "A", "B", "Z", "_", "__", "a", "aa", "ab", "b", "f", "f-", "f0", "f1", "f10", "f2", "f_", "fa", strings.Repeat("f", 31), strings.Repeat("f", 32), "z", "zz"}
}

// TestRising is of P17.1: Family, Families and Pending, which rise, whatever order the families came in.
func TestRising(t *testing.T) {
	chance := rand.New(rand.NewSource(17))
	all := ids()
	orders := [][]int{nil, nil}
	for k := range all {
		orders[0], orders[1] = append(orders[0], k), append(orders[1], len(all)-1-k)
	}
	for range 20 {
		orders = append(orders, chance.Perm(len(all)))
	}
	for n, order := range orders {
		p := newPair(t, len(all))
		for k, at := range order {
			switch (k + n) % 3 {
			case 0:
				p.do(api.Command{Kind: api.CIssue, Family: all[at], Client: "a"})
			case 1:
				p.do(api.Command{Kind: api.CAuthorize, Family: all[at], Client: "a"})
			case 2:
				p.put(api.Family{Id: all[at], Client: "a", Code: 1, Revoked: true})
			}
		}
		for k, at := range order {
			if k%2 == 0 {
				p.do(api.Command{Kind: api.CRevoke, Family: all[at], Client: "a", Token: 1})
				p.do(api.Command{Kind: api.CRevoke, Family: all[at], Client: "a", Token: 2, Serial: 1})
			}
		}
		var told []string
		for _, f := range p.b.Families() {
			told = append(told, f.Id)
		}
		if !slices.Equal(told, all) {
			t.Errorf("%q; want %q", told, all)
		}
		for k, at := range order {
			if k%3 == 0 {
				p.do(api.Command{Kind: api.CDone, Family: all[at]})
			}
		}
	}
}

// TestPut is of P17.2: a family that is put, one in another's place, one more than there is room for, one that isn't right.
func TestPut(t *testing.T) {
	p := newPair(t, 3)
	put := func(want api.Errno, f api.Family) {
		t.Helper()
		if got := p.put(f); got != want {
			t.Errorf("Put(%s): %d; want %d", short(familyText(f)), got, want)
		}
	}
	named := func(f api.Family, id string) api.Family {
		f.Id = id
		return f
	}
	wrong := func(f api.Family) api.Family {
		f.Client = ""
		return f
	}
	put(api.ErrArg, api.Family{})
	put(api.ErrArg, wrong(openFamily()))
	put(api.OK, named(usedFamily(), "f2"))
	put(api.ErrArg, wrong(named(openFamily(), "f2")))
	put(api.OK, named(openFamily(), "f2"))
	put(api.OK, named(revokedFamily(), "f2"))
	put(api.OK, openFamily())
	put(api.OK, named(ownFamily(), "f0"))
	for _, f := range rights() {
		put(api.ErrFull, named(f, "f3"))
		put(api.ErrArg, wrong(named(f, "f3"))) // there is no room either
		put(api.OK, named(f, "f2"))
		put(api.ErrArg, wrong(named(f, "f2")))
		put(api.OK, f)
		put(api.OK, f)
	}
	if e := p.drop("f2"); e != api.OK {
		t.Error(e)
	}
	put(api.OK, named(openFamily(), "f3"))
	put(api.ErrFull, named(openFamily(), "f2"))
	// What was put does what it is.
	if a := p.do(api.Command{Kind: api.CRedeem, Family: "f3", Client: "a", Redirect: "x", Verifier: verifier, Refresh: true}); a.Access != 1 || a.Refresh != 2 {
		t.Error(answerText(a))
	}
	for room := 1; room <= 5; room++ {
		p = newPair(t, room)
		for k := range 7 {
			f := rights()[k]
			f.Id = fmt.Sprint("f", 9-k)
			want := api.OK
			if k >= room {
				want = api.ErrFull
			}
			put(want, f)
		}
	}
	b, m := made(t, maxFamilies), &model{room: maxFamilies}
	for k := range maxFamilies + 1 {
		f := api.Family{Id: fmt.Sprint("f", k), Client: "a", Code: 1}
		if got, want := b.Put(f), m.put(f); got != want {
			t.Errorf("Put of %d: %d; want %d", k, got, want)
		}
	}
	check(t, b, maxFamilies, m.list)
}

// TestDrop is of P17.2: a family that is there, be it revoked or not, and one that isn't.
func TestDrop(t *testing.T) {
	for _, f := range rights() {
		p := pairOf(t, 3, other("f0"), f, other("f2"))
		for _, id := range []string{"", "f", "f3", "F1", "f1 ", "f1\x00", "\xff", "f1f2", strings.Repeat("f", 33), strings.Repeat("f", 1<<20)} {
			if e := p.drop(id); e != api.ErrNone {
				t.Errorf("Drop(%q): %d", short(id), e)
			}
		}
		for k, want := range []api.Errno{api.OK, api.ErrNone, api.ErrNone} {
			if e := p.drop("f1"); e != want {
				t.Errorf("Drop, %d: %d; want %d", k, e, want)
			}
		}
		check(t, p.b, 3, []api.Family{other("f0"), other("f2")})
		if a := p.do(api.Command{Kind: api.CIssue, Family: "f1", Client: "a"}); a.Access != 1 {
			t.Error(answerText(a))
		}
		p.drop("f0")
		p.drop("f2")
		p.drop("f1")
		check(t, p.b, 3, nil)
	}
	if e := made(t, 1).Drop("f1"); e != api.ErrNone {
		t.Error(e)
	}
}

// TestCopy is of P17.4: a copy goes on alone, and so does the one that it was made of.
func TestCopy(t *testing.T) {
	full := append(slices.Clone(stands()), api.Family{})
	for k, f := range full {
		p := pairOf(t, 3, other("f0"), other("f2"))
		if f.Id != "" {
			p.put(f)
		}
		twin := &pair{t, p.b.Copy(), p.m.copied()}
		twin.check()
		first, second := p, twin
		if k%2 == 1 {
			first, second = twin, p
		}
		for n, c := range asks() {
			if (n+k)%7 == 0 {
				first.do(c)
				second.check()
			}
		}
		first.put(changed(usedFamily(), func(f *api.Family) { f.Leases = []int{9} }))
		second.check()
		for _, c := range asks() {
			first.do(changedCommand(c, func(c *api.Command) { c.Family = "f0" }))
		}
		second.check()
		first.drop("f2")
		second.check()
		second.do(api.Command{Kind: api.CLook, Family: "f2", Token: 2, Serial: 1, Edge: 1})
		second.drop("f0")
		first.check()
		second.check()
	}
	for _, room := range []int{1, 2, 256} {
		b := made(t, room)
		if twin := b.Copy(); twin == nil || twin == b {
			t.Errorf("Copy of an empty book: %v", twin)
		} else {
			check(t, twin, room, nil)
		}
	}
}

// TestCopyOfCopy is of P17.4: copies that are made of copies, and that are filled apart.
func TestCopyOfCopy(t *testing.T) {
	p := pairOf(t, 3, usedFamily())
	pairs := []*pair{p}
	for k := range 6 {
		last := pairs[len(pairs)-1]
		pairs = append(pairs, &pair{t, last.b.Copy(), last.m.copied()})
		pairs[k].do(api.Command{Kind: api.CIssue, Family: fmt.Sprint("g", k), Client: "a", Scope: []string{"r"}})
		pairs[k/2].do(api.Command{Kind: api.CLook, Family: "f1", Token: 2, Serial: 1, Edge: 10 + k})
		pairs[k/3].do(api.Command{Kind: api.CRefresh, Family: "f1", Client: "a", Serial: 4})
		for _, one := range pairs {
			one.check()
		}
	}
}

// TestNil is of P17.2 and P17.4: every call of a nil book.
func TestNil(t *testing.T) {
	var b *grant.Book
	if twin := b.Copy(); twin != nil {
		t.Errorf("Copy: %v", twin)
	}
	check(t, b, 0, nil)
	for _, f := range append(rights(), api.Family{}, api.Family{Id: "f1"}) {
		if e := b.Put(f); e != api.ErrNil {
			t.Errorf("Put(%s): %d", familyText(f), e)
		}
	}
	for _, id := range []string{"", "f1", strings.Repeat("f", 1<<20)} {
		if e := b.Drop(id); e != api.ErrNil {
			t.Errorf("Drop(%q): %d", short(id), e)
		}
		if f, ok := b.Family(id); ok || familyText(f) != familyText(api.Family{}) {
			t.Errorf("Family(%q): %s, %v", short(id), familyText(f), ok)
		}
	}
	m := &model{}
	for _, c := range append(append(asks(), commands()...), api.Command{}, api.Command{Kind: 8, Family: "f1"}, api.Command{Kind: -1}) {
		got, want := b.Do(c), m.do(c)
		if answerText(got) != answerText(want) {
			t.Errorf("Do(%s): %s; want %s", commandText(c), answerText(got), answerText(want))
		}
	}
	wants := map[int]api.Answer{1: {Why: 7}, 2: {Why: 3}, 3: {Why: 3}, 4: {Why: 7}, 5: {}, 6: {}, 7: {}}
	for _, c := range commands() {
		if got := b.Do(c); answerText(got) != answerText(wants[c.Kind]) {
			t.Errorf("Do(%s): %s; want %s", commandText(c), answerText(got), answerText(wants[c.Kind]))
		}
		c.Family = ""
		if got := b.Do(c); answerText(got) != answerText(api.Answer{Why: 1}) {
			t.Errorf("Do(%s): %s", commandText(c), answerText(got))
		}
	}
	check(t, b, 0, nil)
}

// TestLong is of P1: arguments that are far too long, or far too many, end.
func TestLong(t *testing.T) {
	b := made(t, 2)
	long, list := strings.Repeat("a", 1<<22), slices.Repeat([]string{strings.Repeat("r", 64)}, 1<<18)
	for kind := range 9 {
		for _, c := range []api.Command{
			{Kind: kind, Family: long, Client: long, User: long, Scope: list, Redirect: long, Challenge: long, Method: long, Verifier: long, Refresh: true, Serial: math.MaxInt, Token: math.MaxInt, Edge: math.MaxInt},
			{Kind: kind, Family: "f1", Client: "a", Scope: list},
			{Kind: kind, Family: "f1", Client: "a", Challenge: long, Method: "plain"},
			{Kind: kind, Family: "f1", Client: "a", Challenge: long, Method: "S256"},
			{Kind: kind, Family: "f1", Client: long},
			{Kind: kind, Family: "f1", Serial: math.MinInt, Token: math.MinInt, Edge: math.MinInt},
		} {
			if a := b.Do(c); grant.May(c) || answerText(a) != answerText(api.Answer{Why: 1}) {
				t.Errorf("Do, %d: %s", kind, short(answerText(a)))
			}
		}
	}
	for _, f := range []api.Family{
		{Id: long, Client: long, User: long, Scope: list, Redirect: long, Challenge: long, Method: long, Code: math.MaxInt, Tokens: slices.Repeat([]api.Issued{{Kind: 2, Scope: list}}, 1<<16), Leases: make([]int, 1<<20)},
		{Id: "f1", Client: "a", Scope: list, Code: 1},
		{Id: "f1", Client: "a", Code: 2, Tokens: []api.Issued{{Kind: 2, Scope: list}}},
		{Id: "f1", Client: "a", Code: 2, Scope: list[:1], Tokens: []api.Issued{{Kind: 2, Scope: list}}},
		{Id: "f1", Client: "a", Code: 2, Scope: list[:1], Tokens: []api.Issued{{Kind: 3, Scope: list}}},
		{Id: "f1", Client: "a", Code: 2, Tokens: make([]api.Issued, 1<<20)},
		{Id: "f1", Client: "a", Code: 1, Leases: make([]int, 1<<20)},
		{Id: "f1", Client: "a", Code: math.MinInt},
	} {
		if e := b.Put(f); grant.Right(f) || e != api.ErrArg {
			t.Errorf("Put: %d", e)
		}
	}
	if e := b.Drop(long); e != api.ErrNone {
		t.Error(e)
	}
	if f, ok := b.Family(long); ok || familyText(f) != familyText(api.Family{}) {
		t.Error(familyText(f))
	}
	check(t, b, 2, nil)
}

// TestOddTexts is of P17.1: texts of any bytes are told as they are, and are held against each other byte by byte.
func TestOddTexts(t *testing.T) {
	odd := []string{"a", "A", "a ", " a", "a\x00", "\x00", "\xff", "\xc3", "\u00e9", "e\u0301", "\u212a", "k", "K", strings.Repeat("a", 127), strings.Repeat("a", 128)}
	for _, mine := range odd {
		for _, asked := range odd {
			f := api.Family{Id: "f1", Client: mine, User: mine, Redirect: mine, Code: 1}
			p := newPair(t, 1)
			p.do(api.Command{Kind: 1, Family: "f1", Client: mine, User: mine, Redirect: mine})
			check(t, p.b, 1, []api.Family{f})
			if a := p.do(api.Command{Kind: 2, Family: "f1", Client: mine, Redirect: asked, Refresh: true}); (a.Why == 0) != (mine == asked) {
				t.Errorf("%q, %q: %s", mine, asked, answerText(a))
			}
			p.do(api.Command{Kind: 2, Family: "f1", Client: mine, Redirect: mine, Refresh: true})
			if mine == asked {
				continue
			}
			if a := p.do(api.Command{Kind: 3, Family: "f1", Client: asked, Serial: 2}); a.Why != 3 || len(p.b.Pending()) != 0 {
				t.Errorf("%q, %q: %s", mine, asked, answerText(a))
			}
			if a := p.do(api.Command{Kind: 6, Family: "f1", Serial: 2, Token: 3}); a.Client != mine || a.User != mine {
				t.Errorf("%q: %s", mine, answerText(a))
			}
			if a := p.do(api.Command{Kind: 5, Family: "f1", Client: asked, Token: 1}); a.Wait || len(p.b.Pending()) != 0 {
				t.Errorf("%q, %q: %s", mine, asked, answerText(a))
			}
		}
	}
}

// watch is what P17.3 says of one family, told from commands and their answers alone.
type watch struct {
	grants  int          // by its code
	uses    map[int]int  // of its refresh tokens
	edges   map[int]bool // that were told of an active token
	revoked bool
	scope   []string
}

// byChance answers a command of few families, clients, scopes; most often one that fits what the book has.
func byChance(chance *rand.Rand, b *grant.Book) api.Command {
	pick := func(l ...string) string { return l[chance.Intn(len(l))] }
	kinds := []int{1, 1, 2, 2, 2, 3, 3, 3, 3, 3, 3, 4, 5, 6, 6, 6, 6, 7, 7}
	sets := [][]string{nil, {"r"}, {"w"}, {"r", "w"}, {"r", "w", "x"}}
	c := api.Command{Kind: kinds[chance.Intn(len(kinds))], Family: pick("f1", "f2", "f3", "g")}
	f, _ := b.Family(c.Family)
	if (c.Kind == api.CRedeem && f.Code == 2 || c.Kind == api.CRevoke) && chance.Intn(10) > 0 {
		c.Kind = api.CLook
	}
	if c.Kind < api.CLook {
		c.Client = pick("a", "b")
		if f.Client != "" && chance.Intn(5) > 0 {
			c.Client = f.Client
		}
	}
	if c.Kind == api.CRefresh || c.Kind == api.CRevoke || c.Kind == api.CLook {
		c.Serial = max(0, len(f.Tokens)-chance.Intn(4)+chance.Intn(2))
	}
	if c.Kind == api.CRevoke || c.Kind == api.CLook {
		c.Token = 1 + chance.Intn(3)
		if c.Serial >= 1 && c.Serial <= len(f.Tokens) && chance.Intn(5) > 0 {
			c.Token = f.Tokens[c.Serial-1].Kind
		}
	}
	fresh := slices.IndexFunc(f.Tokens, func(x api.Issued) bool { return x.Kind == api.KRefresh && !x.Used })
	if c.Kind == api.CRefresh && fresh >= 0 && chance.Intn(15) > 0 {
		c.Serial = fresh + 1
	}
	switch c.Kind {
	case api.CAuthorize:
		c.User, c.Scope, c.Redirect = pick("", "u"), sets[chance.Intn(len(sets))], pick("x", "")
		if chance.Intn(2) == 0 {
			c.Challenge, c.Method = digest, "S256"
		}
	case api.CRedeem:
		c.Redirect, c.Verifier, c.Refresh = f.Redirect, pick("", verifier), chance.Intn(4) > 0
		if chance.Intn(5) == 0 {
			c.Redirect = pick("x", "")
		}
	case api.CRefresh:
		c.Scope = sets[chance.Intn(3)]
	case api.CIssue:
		c.Scope = sets[chance.Intn(len(sets))]
	case api.CLook:
		c.Edge = chance.Intn(32)
	}
	if chance.Intn(100) == 0 {
		c.User, c.Token = "u", 1
	}
	return c
}

// TestByChance is of P17.1 to P17.3: long runs of commands by chance, held against the definition and against what follows.
func TestByChance(t *testing.T) {
	chance := rand.New(rand.NewSource(17))
	counts := map[string]int{}
	for range 200 {
		room := 1 + chance.Intn(4)
		b, m := made(t, room), &model{room: room}
		seen := map[string]*watch{}
		for range 150 {
			c := byChance(chance, b)
			ahead := map[string]string{}
			for _, f := range b.Families() {
				ahead[f.Id] = familyText(f)
			}
			a, want := b.Do(c), m.do(c)
			if answerText(a) != answerText(want) {
				t.Fatalf("Do(%s): %s; want %s", commandText(c), answerText(a), answerText(want))
			}
			check(t, b, room, m.list)
			counts[fmt.Sprint(c.Kind, a.Why, a.Active, a.Wait)]++
			for _, f := range b.Families() {
				if !grant.Right(f) || f.Id != c.Family && ahead[f.Id] != familyText(f) {
					t.Errorf("behind %s: %s; ahead %s", commandText(c), familyText(f), ahead[f.Id])
				}
				delete(ahead, f.Id)
			}
			delete(ahead, c.Family)
			if len(ahead) > 0 {
				t.Errorf("gone by %s: %v", commandText(c), ahead)
			}
			follow(t, b, seen, c, a)
		}
	}
	for _, want := range []string{"1 0 false false", "1 7 false false", "2 0 false false", "2 3 false false", "3 0 false false", "3 3 false false", "3 6 false false", "3 7 false false", "4 0 false false", "5 0 false true", "6 0 true false"} {
		if counts[want] < 20 {
			t.Errorf("too few of %s: %v", want, counts)
		}
	}
}

// follow holds what follows of one more command.
func follow(t *testing.T, b *grant.Book, seen map[string]*watch, c api.Command, a api.Answer) {
	t.Helper()
	w := seen[c.Family]
	if w == nil {
		w = &watch{uses: map[int]int{}, edges: map[int]bool{}}
	}
	if w.revoked && (a.Active || a.Access != 0 || a.Refresh != 0) {
		t.Errorf("behind a revocation %s: %s", commandText(c), answerText(a))
	}
	if (c.Kind == api.CAuthorize || c.Kind == api.CIssue) && a.Why == api.WhyNone {
		w = &watch{uses: map[int]int{}, edges: map[int]bool{}, scope: c.Scope}
		seen[c.Family] = w
	}
	if c.Kind == api.CRedeem && a.Access != 0 {
		w.grants++
	}
	if c.Kind == api.CRefresh && a.Access != 0 {
		w.uses[c.Serial]++
	}
	if w.grants > 1 || w.uses[c.Serial] > 1 {
		t.Errorf("twice: %s: %s", commandText(c), answerText(a))
	}
	if !isWithin(a.Scope, w.scope) {
		t.Errorf("beyond %q: %s: %s", w.scope, commandText(c), answerText(a))
	}
	if a.Active {
		w.edges[c.Edge] = true
	}
	f, ok := b.Family(c.Family)
	if !ok {
		delete(seen, c.Family)
		return
	}
	w.revoked = f.Revoked
	var leases []int
	for edge := range 32 {
		if w.edges[edge] {
			leases = append(leases, edge)
		}
	}
	if !slices.Equal(f.Leases, leases) {
		t.Errorf("behind %s the leases are %d; told were %d", commandText(c), f.Leases, leases)
	}
}

// TestAgain is of the rule that answers come of arguments alone: the same commands answer the same, whatever else was done in other books.
func TestAgain(t *testing.T) {
	run := func() string {
		chance := rand.New(rand.NewSource(5))
		b := made(t, 3)
		var out []string
		for range 400 {
			out = append(out, answerText(b.Do(byChance(chance, b))), familiesText(b.Families()), fmt.Sprintf("%q", b.Pending()))
		}
		return strings.Join(out, "\n")
	}
	first := run()
	for range 20 {
		if run() != first {
			t.Fatal("another answer")
		}
	}
}
