package grant_test

import (
	"fmt"
	"slices"
	"strings"
	"testing"
	"unsafe"

	"signet/api"
	"signet/grant"
)

// texts are some whose memory may be written over, and lists of them that have room behind their ends.
type texts struct {
	memory []byte
	was    string
	lists  [][]string
	shown  []string // of the lists, with the room behind their ends
}

func newTexts() *texts { return &texts{memory: make([]byte, 4000)} }

// put answers that text, of that memory.
func (m *texts) put(s string) string {
	if s == "" {
		return ""
	}
	at := len(m.was)
	m.was += s
	copy(m.memory[at:], s)
	return unsafe.String(&m.memory[at], len(s))
}

// putAll answers these texts, of that memory, in a list that has room behind its end.
func (m *texts) putAll(l []string) []string {
	var out []string
	for _, s := range l {
		out = append(out, m.put(s))
	}
	out = append(out, m.put("behind"), m.put("more"))
	m.lists, m.shown = append(m.lists, out), append(m.shown, fmt.Sprintf("%q", out))
	return out[:len(l)]
}

// command answers that command, of that memory.
func (m *texts) command(c api.Command) api.Command {
	c.Family, c.Client, c.User = m.put(c.Family), m.put(c.Client), m.put(c.User)
	c.Redirect, c.Challenge, c.Method, c.Verifier = m.put(c.Redirect), m.put(c.Challenge), m.put(c.Method), m.put(c.Verifier)
	c.Scope = m.putAll(c.Scope)
	return c
}

// family answers that family, of that memory.
func (m *texts) family(f api.Family) api.Family {
	f.Id, f.Client, f.User = m.put(f.Id), m.put(f.Client), m.put(f.User)
	f.Redirect, f.Challenge, f.Method = m.put(f.Redirect), m.put(f.Challenge), m.put(f.Method)
	f.Scope = m.putAll(f.Scope)
	tokens := append(slices.Clone(f.Tokens), api.Issued{Kind: 77, Used: true}, api.Issued{Kind: 78})
	for k := range tokens {
		tokens[k].Scope = m.putAll(tokens[k].Scope)
	}
	f.Tokens = tokens[:len(f.Tokens)]
	f.Leases = append(slices.Clone(f.Leases), 77, 78)[:len(f.Leases)]
	return f
}

// spoil holds the memory against what was put there, and writes all of it over.
func (m *texts) spoil(t *testing.T) {
	t.Helper()
	if string(m.memory[:len(m.was)]) != m.was || strings.Trim(string(m.memory[len(m.was):]), "\x00") != "" {
		t.Errorf("changed: %q", m.memory)
	}
	for k, l := range m.lists {
		if got := fmt.Sprintf("%q", l); got != m.shown[k] {
			t.Errorf("a list is %s; was %s", got, m.shown[k])
		}
		for i := range l {
			l[i] = "!"
		}
	}
	for i := range m.memory {
		m.memory[i] = '!'
	}
}

// spoilFamily is spoil of a family's lists as well.
func (m *texts) spoilFamily(t *testing.T, f, was api.Family) {
	t.Helper()
	if got := familyText(f); got != familyText(was) {
		t.Errorf("changed: %s; was %s", got, familyText(was))
	}
	tokens, leases := f.Tokens[:len(f.Tokens)+2], f.Leases[:len(f.Leases)+2]
	if n := len(tokens); tokens[n-2].Kind != 77 || !tokens[n-2].Used || tokens[n-1].Kind != 78 || tokens[n-1].Used {
		t.Errorf("behind the tokens: %v", tokens[n-2:])
	}
	if n := len(leases); leases[n-2] != 77 || leases[n-1] != 78 {
		t.Errorf("behind the leases: %v", leases[n-2:])
	}
	m.spoil(t)
	for k := range tokens {
		tokens[k] = api.Issued{Kind: 99}
	}
	for k := range leases {
		leases[k] = 99
	}
}

// script are commands that do all that commands can do, one behind the other.
func script() []api.Command {
	set := []string{"r", "w"}
	return []api.Command{
		{Kind: 1, Family: "f1", Client: "a", User: "u", Scope: set, Redirect: "x", Challenge: digest, Method: "S256"},
		{Kind: 1, Family: "f1", Client: "b", User: "v", Scope: set},
		{Kind: 6, Family: "f1", Token: 1, Edge: 3},
		{Kind: 2, Family: "f1", Client: "b", Redirect: "x", Verifier: verifier},
		{Kind: 2, Family: "f1", Client: "a", Redirect: "y", Verifier: verifier},
		{Kind: 2, Family: "f1", Client: "a", Redirect: "x", Verifier: verifier, Refresh: true},
		{Kind: 6, Family: "f1", Token: 2, Serial: 1, Edge: 30},
		{Kind: 6, Family: "f1", Token: 3, Serial: 2, Edge: 4},
		{Kind: 3, Family: "f1", Client: "a", Serial: 2, Scope: []string{"x"}},
		{Kind: 3, Family: "f1", Client: "a", Serial: 2, Scope: []string{"w"}},
		{Kind: 6, Family: "f1", Token: 2, Serial: 3, Edge: 4},
		{Kind: 3, Family: "f1", Client: "a", Serial: 4},
		{Kind: 4, Family: "f2", Client: "b", Scope: set},
		{Kind: 6, Family: "f2", Token: 2, Serial: 1, Edge: 9},
		{Kind: 1, Family: "f3", Client: "c", User: "u", Scope: []string{"w"}, Redirect: "z", Challenge: verifier, Method: "plain"},
		{Kind: 4, Family: "f4", Client: "d", Scope: set},
		{Kind: 5, Family: "f2", Client: "c", Token: 2, Serial: 1},
		{Kind: 5, Family: "f2", Client: "b", Token: 2, Serial: 1},
		{Kind: 2, Family: "f3", Client: "c", Redirect: "z", Verifier: verifier, Refresh: true},
		{Kind: 3, Family: "f1", Client: "a", Serial: 2, Scope: []string{"w"}},
		{Kind: 7, Family: "f2"},
		{Kind: 7, Family: "f3"},
		{Kind: 4, Family: "f2", Client: "e", Scope: []string{"w"}},
		{Kind: 8, Family: "f2", Client: "e", Scope: []string{"w"}},
		{Kind: 4, Family: "f.2", Client: "e", Scope: []string{"w", "r"}},
	}
}

// TestMemoryDo is of P17.4: what a command is told in isn't changed or kept, and may be written over behind the call.
func TestMemoryDo(t *testing.T) {
	for _, room := range []int{1, 2, 3, 9} {
		p, m := newPair(t, room), &model{room: room}
		for _, c := range script() {
			memory := newTexts()
			handed := memory.command(c)
			grant.May(handed)
			got, want := p.b.Do(handed), m.do(c)
			if commandText(handed) != commandText(c) {
				t.Errorf("changed: %s; was %s", commandText(handed), commandText(c))
			}
			memory.spoil(t)
			// The answer is held behind that, so that it isn't told in that memory either.
			if answerText(got) != answerText(want) {
				t.Errorf("Do(%s): %s; want %s", commandText(c), answerText(got), answerText(want))
			}
			check(t, p.b, room, m.list)
		}
	}
}

// TestMemoryPut is of P17.4: what a family is told in isn't changed or kept, be it put, put in another one's place, or refused.
func TestMemoryPut(t *testing.T) {
	wrong := changed(usedFamily(), func(f *api.Family) { f.Tokens[0].Kind = 1 })
	far := changed(usedFamily(), func(f *api.Family) { f.Id = "f9" })
	for _, first := range rights() {
		for _, second := range append(rights(), wrong, far) {
			b, m := made(t, 1), &model{room: 1}
			for _, f := range []api.Family{first, second} {
				memory := newTexts()
				handed := memory.family(f)
				if grant.Right(handed) != isRight(f) {
					t.Errorf("Right(%s)", familyText(f))
				}
				if got, want := b.Put(handed), m.put(f); got != want {
					t.Errorf("Put(%s): %d; want %d", familyText(f), got, want)
				}
				memory.spoilFamily(t, handed, f)
				check(t, b, 1, m.list)
			}
			// What is there goes on in memory of its own.
			p := &pair{t, b, m}
			for _, c := range asks() {
				if c.Kind == api.CLook || c.Kind == api.CRefresh || c.Kind == api.CRedeem {
					p.b.Do(c)
					p.m.do(c)
				}
			}
			p.check()
		}
	}
}

// TestMemoryIds is of P17.4: an Id that is asked for isn't changed or kept.
func TestMemoryIds(t *testing.T) {
	p := pairOf(t, 3, usedFamily(), other("f0"), other("f2"))
	for _, id := range []string{"f0", "f1", "f2", "f3"} {
		memory := newTexts()
		handed := memory.put(id)
		got, _ := p.b.Family(handed)
		memory.spoil(t)
		if want := p.m.at(id); want >= 0 && familyText(got) != familyText(p.m.list[want]) || want < 0 && familyText(got) != familyText(api.Family{}) {
			t.Errorf("Family(%q): %s", id, familyText(got))
		}
		p.check()
		memory = newTexts()
		handed = memory.put(id)
		if got, want := p.b.Drop(handed), p.m.drop(id); got != want {
			t.Errorf("Drop(%q): %d; want %d", id, got, want)
		}
		memory.spoil(t)
		p.check()
	}
}

// cells are all texts, and all lists, of some answers.
type cells struct {
	texts   []string
	lists   [][]string
	numbers [][]int
	tokens  [][]api.Issued
}

func (x *cells) text(all ...string) { x.texts = append(x.texts, all...) }

func (x *cells) list(l []string) {
	x.text(l...)
	x.lists = append(x.lists, l)
}

func (x *cells) answer(a api.Answer) {
	x.text(a.Client, a.User)
	x.list(a.Scope)
}

func (x *cells) family(f api.Family) {
	x.text(f.Id, f.Client, f.User, f.Redirect, f.Challenge, f.Method)
	x.list(f.Scope)
	for _, one := range f.Tokens {
		x.list(one.Scope)
	}
	x.tokens = append(x.tokens, f.Tokens)
	x.numbers = append(x.numbers, f.Leases)
}

// overwrite writes all over, each with a mark of its own, to the ends of the lists' room, and holds that no two share memory.
func (x *cells) overwrite(t *testing.T) {
	t.Helper()
	mark := func(k, i int) byte { return byte('!' + (7*k+3*i)%90) }
	for k, s := range x.texts {
		for i := range len(s) {
			unsafe.Slice(unsafe.StringData(s), len(s))[i] = mark(k, i)
		}
	}
	for k, s := range x.texts {
		for i := range len(s) {
			if s[i] != mark(k, i) {
				t.Errorf("the text %d shares memory: %q", k, s)
				break
			}
		}
	}
	for k, l := range x.lists {
		for i := range l[:cap(l)] {
			l[:cap(l)][i] = fmt.Sprint(k, i)
		}
	}
	for k, l := range x.lists {
		for i := range l[:cap(l)] {
			if l[:cap(l)][i] != fmt.Sprint(k, i) {
				t.Errorf("the list %d shares memory: %q", k, l[:cap(l)])
				break
			}
		}
	}
	for k, l := range x.numbers {
		for i := range l[:cap(l)] {
			l[:cap(l)][i] = 100*k + i
		}
	}
	for k, l := range x.numbers {
		for i := range l[:cap(l)] {
			if l[:cap(l)][i] != 100*k+i {
				t.Errorf("the leases %d share memory: %d", k, l[:cap(l)])
				break
			}
		}
	}
	for k, l := range x.tokens {
		for i := range l[:cap(l)] {
			l[:cap(l)][i] = api.Issued{Kind: 100*k + i}
		}
	}
	for k, l := range x.tokens {
		for i := range l[:cap(l)] {
			if l[:cap(l)][i].Kind != 100*k+i {
				t.Errorf("the tokens %d share memory: %v", k, l[:cap(l)])
				break
			}
		}
	}
}

// told answers all that a book tells of its families.
func told(b *grant.Book) *cells {
	x := &cells{}
	for _, f := range b.Families() {
		x.family(f)
	}
	for _, id := range []string{"f0", "f1", "f2", "f3", "f4", "f5"} {
		f, _ := b.Family(id)
		x.family(f)
	}
	x.list(b.Pending())
	return x
}

// TestMemoryOut is of P17.4: what is answered is new memory, and may be written over, with what it embeds; nothing in the book changes by it, nor what is handed in.
func TestMemoryOut(t *testing.T) {
	for _, room := range []int{1, 2, 3, 9} {
		b, m := made(t, room), &model{room: room}
		for _, c := range script() {
			memory := newTexts()
			handed := memory.command(c)
			got, want := b.Do(handed), m.do(c)
			if answerText(got) != answerText(want) {
				t.Errorf("Do(%s): %s; want %s", commandText(c), answerText(got), answerText(want))
			}
			all := told(b)
			all.answer(got)
			all.overwrite(t)
			memory.spoil(t)
			check(t, b, room, m.list)
			told(b).overwrite(t)
			check(t, b, room, m.list)
		}
	}
	for _, f := range rights() {
		b := made(t, 1)
		memory := newTexts()
		if e := b.Put(memory.family(f)); e != api.OK {
			t.Error(e)
		}
		for range 2 {
			told(b).overwrite(t)
			check(t, b, 1, []api.Family{f})
		}
		memory.spoil(t)
		check(t, b, 1, []api.Family{f})
	}
}

// TestMemoryCopy is of P17.4: a copy tells its families in memory of its own.
func TestMemoryCopy(t *testing.T) {
	for _, f := range rights() {
		b := made(t, 2)
		b.Put(f)
		b.Put(other("f2"))
		twin := b.Copy()
		all, more := told(b), told(twin)
		all.texts = append(all.texts, more.texts...)
		all.lists = append(all.lists, more.lists...)
		all.numbers = append(all.numbers, more.numbers...)
		all.tokens = append(all.tokens, more.tokens...)
		all.overwrite(t)
		check(t, b, 2, []api.Family{f, other("f2")})
		check(t, twin, 2, []api.Family{f, other("f2")})
	}
}

// TestMemoryLooks is of P17.4: an answer stays as it was told, whatever the book does behind it.
func TestMemoryLooks(t *testing.T) {
	p := pairOf(t, 2, changed(usedFamily(), func(f *api.Family) { f.Leases = []int{5, 6, 7, 8} }))
	look := p.b.Do(api.Command{Kind: api.CLook, Family: "f1", Token: 2, Serial: 1, Edge: 6})
	f, _ := p.b.Family("f1")
	l, twin := p.b.Families(), p.b.Copy()
	was := []string{answerText(look), familyText(f), familiesText(l), familiesText(twin.Families())}
	for edge := range 32 {
		p.b.Do(api.Command{Kind: api.CLook, Family: "f1", Token: 2, Serial: 3, Edge: 31 - edge})
	}
	p.b.Do(api.Command{Kind: api.CRefresh, Family: "f1", Client: "a", Serial: 4, Scope: []string{"r"}})
	p.b.Do(api.Command{Kind: api.CRevoke, Family: "f1", Client: "a", Token: 1})
	p.b.Put(ownFamily())
	p.b.Do(api.Command{Kind: api.CRevoke, Family: "f1", Client: "a", Token: 2, Serial: 1})
	p.b.Do(api.Command{Kind: api.CDone, Family: "f1"})
	if got := []string{answerText(look), familyText(f), familiesText(l), familiesText(twin.Families())}; !slices.Equal(got, was) {
		t.Errorf("%q; was %q", got, was)
	}
}
