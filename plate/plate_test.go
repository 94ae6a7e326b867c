package plate_test

import (
	"bytes"
	"math"
	"math/rand"
	"runtime"
	"slices"
	"strings"
	"testing"
	"unsafe"

	"signet/api"
	"signet/plate"
)

const (
	least    = math.MinInt
	greatest = math.MaxInt

	maxRoom = 268435456
)

// The face, as the chapter has it.
var (
	_ func(int) (*plate.Plate, api.Errno)            = plate.New
	_ func(*plate.Plate, string, []byte) api.Errno   = (*plate.Plate).Append
	_ func(*plate.Plate, string) api.Errno           = (*plate.Plate).Sync
	_ func(*plate.Plate, string, int) api.Errno      = (*plate.Plate).Cut
	_ func(*plate.Plate, string) ([]byte, api.Errno) = (*plate.Plate).Read
	_ func(*plate.Plate) []string                    = (*plate.Plate).Names
	_ func(*plate.Plate) int                         = (*plate.Plate).Used
	_ func(*plate.Plate, string) int                 = (*plate.Plate).Synced
	_ func(*plate.Plate, int)                        = (*plate.Plate).Arm
	_ func(*plate.Plate) bool                        = (*plate.Plate).Down
	_ func(*plate.Plate, ...int)                     = (*plate.Plate).Crash
	_ func(*plate.Plate) *plate.Plate                = (*plate.Plate).Copy
)

// file is a name, and its bytes: those that are synced, and the others.
type file struct{ name, synced, rest string }

func (f file) bytes() string { return f.synced + f.rest }

// model is a plate by the chapter's words: its files in a list, rising, those with bytes alone.
type model struct {
	room  int
	files []file
	armed bool
	left  int
	down  bool
}

func (m model) copied() *model {
	m.files = slices.Clone(m.files)
	return &m
}

func (m *model) used() int {
	n := 0
	for _, f := range m.files {
		n += len(f.bytes())
	}
	return n
}

func (m *model) file(name string) file {
	for _, f := range m.files {
		if f.name == name {
			return f
		}
	}
	return file{name: name}
}

// set puts f in the place of the file of its name.
func (m *model) set(f file) {
	var out []file
	for _, g := range m.files {
		if g.name < f.name {
			out = append(out, g)
		}
	}
	if f.bytes() != "" {
		out = append(out, f)
	}
	for _, g := range m.files {
		if g.name > f.name {
			out = append(out, g)
		}
	}
	m.files = out
}

// The calls that change a plate, or are refused by it.
const (
	anAppend = 'a'
	aSync    = 's'
	aCut     = 'c'
	aRead    = 'r'
	anArm    = 'm'
	aCrash   = 'x'
)

// call is one of them, with what is handed in.
type call struct {
	kind  byte
	name  string
	b     string
	n     int
	keeps []int
}

func toAppend(name, b string) call    { return call{kind: anAppend, name: name, b: b} }
func toSync(name string) call         { return call{kind: aSync, name: name} }
func toCut(name string, n int) call   { return call{kind: aCut, name: name, n: n} }
func toRead(name string) call         { return call{kind: aRead, name: name} }
func toArm(n int) call                { return call{kind: anArm, n: n} }
func toCrash(keeps ...int) call       { return call{kind: aCrash, keeps: keeps} }
func (c call) changes() bool          { return c.kind == anAppend || c.kind == aSync || c.kind == aCut }
func (c call) named(name string) call { c.name = name; return c }

// do asks a plate.
func (c call) do(p *plate.Plate) (b []byte, e api.Errno) {
	switch c.kind {
	case anAppend:
		e = p.Append(c.name, []byte(c.b))
	case aSync:
		e = p.Sync(c.name)
	case aCut:
		e = p.Cut(c.name, c.n)
	case aRead:
		b, e = p.Read(c.name)
	case anArm:
		p.Arm(c.n)
	case aCrash:
		p.Crash(c.keeps...)
	}
	return b, e
}

// reckon asks the model.
func (c call) reckon(m *model) (string, api.Errno) {
	switch c.kind {
	case anArm:
		if !m.down {
			m.armed, m.left = c.n >= 0, c.n
		}
		return "", api.OK
	case aCrash:
		m.crash(c.keeps)
		return "", api.OK
	}
	if len(c.name) < 1 || len(c.name) > 64 {
		return "", api.ErrArg
	}
	if c.changes() && m.armed {
		m.armed, m.down = m.left > 0, m.left == 0
		m.left--
	}
	if m.down {
		return "", api.ErrDown
	}
	return c.reckonUp(m)
}

// reckonUp asks a model whose power is there.
func (c call) reckonUp(m *model) (string, api.Errno) {
	f := m.file(c.name)
	all := f.bytes()
	switch c.kind {
	case aRead:
		return all, api.OK
	case anAppend:
		if m.used()+len(c.b) > m.room {
			return "", api.ErrFull
		}
		f.rest += c.b
	case aSync:
		f.synced, f.rest = all, ""
	case aCut:
		if c.n < 0 || c.n > len(all) {
			return "", api.ErrRange
		}
		stays := min(c.n, len(f.synced))
		f.synced, f.rest = all[:stays], all[stays:c.n]
	}
	m.set(f)
	return "", api.OK
}

func (m *model) crash(keeps []int) {
	was := m.files
	m.files, m.armed, m.down = nil, false, false
	for i, f := range was {
		for n := 0; n < len(f.rest) && i < len(keeps) && n < keeps[i]; n++ {
			f.synced += f.rest[n : n+1]
		}
		m.set(file{name: f.name, synced: f.synced})
	}
}

// all is keeps by which so many files keep all bytes.
func all(files int) []int { return slices.Repeat([]int{greatest}, files) }

// filesOf tells a plate's files. What is on one whose power is out is looked at on a copy, behind a crash that keeps all.
func filesOf(t *testing.T, p *plate.Plate) []file {
	t.Helper()
	var out []file
	names := p.Names()
	q := p
	if p.Down() {
		q = p.Copy()
		q.Crash(all(len(names))...)
	}
	for _, name := range names {
		b, e := q.Read(name)
		n := p.Synced(name)
		if e != api.OK || n < 0 || n > len(b) || len(b) == 0 {
			t.Fatalf("%q: %q, %d, %d of them synced", name, b, e, n)
		}
		out = append(out, file{name, string(b[:n]), string(b[n:])})
	}
	return out
}

// check asks whether a plate has these files, and no others.
func check(t *testing.T, p *plate.Plate, want ...file) {
	t.Helper()
	if got := filesOf(t, p); !slices.Equal(got, want) {
		t.Errorf("the files are %q, not %q", got, want)
	}
	used := 0
	for _, f := range want {
		used += len(f.bytes())
	}
	if got := p.Used(); got != used {
		t.Errorf("Used: %d, not %d", got, used)
	}
}

func checkDown(t *testing.T, p *plate.Plate, want bool) {
	t.Helper()
	if got := p.Down(); got != want {
		t.Errorf("Down: %t", got)
	}
}

// checkCall asks what a plate answers to a call.
func checkCall(t *testing.T, p *plate.Plate, c call, want string, wantErr api.Errno) {
	t.Helper()
	if b, e := c.do(p); string(b) != want || e != wantErr {
		t.Errorf("%c %q %d %d %v: %q, %d, not %q, %d", c.kind, c.name, len(c.b), c.n, c.keeps, b, e, want, wantErr)
	}
}

// checkOK makes calls that a plate does.
func checkOK(t *testing.T, p *plate.Plate, calls ...call) {
	t.Helper()
	for _, c := range calls {
		checkCall(t, p, c, "", api.OK)
	}
}

// checkModel makes a call of a plate and of a model, and asks whether both answer alike and are alike behind it.
func checkModel(t *testing.T, p *plate.Plate, m *model, c call) {
	t.Helper()
	want, wantErr := c.reckon(m)
	checkCall(t, p, c, want, wantErr)
	checkAlike(t, p, m)
}

func checkAlike(t *testing.T, p *plate.Plate, m *model) {
	t.Helper()
	check(t, p, m.files...)
	checkDown(t, p, m.down)
}

// of answers a new plate of that room, behind these calls.
func of(t *testing.T, room int, calls ...call) *plate.Plate {
	t.Helper()
	p, e := plate.New(room)
	if e != api.OK || p == nil {
		t.Fatalf("New(%d): %d", room, e)
	}
	checkOK(t, p, calls...)
	return p
}

// outOf answers a plate as of, whose power is out.
func outOf(t *testing.T, room int, calls ...call) *plate.Plate {
	t.Helper()
	p := of(t, room, calls...)
	p.Arm(0)
	checkCall(t, p, toSync("a"), "", api.ErrDown)
	checkDown(t, p, true)
	return p
}

// goodNames are some of every length that the document names, and of bytes that are no text.
func goodNames() []string {
	out := []string{"a", "ab", strings.Repeat("n", 63), strings.Repeat("n", 64), "\xff", "\xc0\x80", "\xed\xa0\x80", strings.Repeat("\xfe", 64), strings.Repeat("\x00", 64), "a\x00", "a/b", "..", " ", "é", "a|b"}
	for c := range 256 {
		out = append(out, string([]byte{byte(c)}))
	}
	slices.Sort(out)
	return slices.Compact(out)
}

// badNames are none: too short, or too long.
func badNames() []string {
	return []string{"", strings.Repeat("n", 65), strings.Repeat("n", 66), strings.Repeat("n", 128), strings.Repeat("\xff", 65), strings.Repeat("\x00", 65), strings.Repeat("é", 33), strings.Repeat("n", 1<<20)}
}

// TestExamples is of P10.1 to P10.4: the chapter's examples.
func TestExamples(t *testing.T) {
	p := of(t, 9, toAppend("a", "abc"), toSync("a"), toAppend("a", "de"))
	if p.Used() != 5 || p.Synced("a") != 3 {
		t.Errorf("Used %d, Synced %d", p.Used(), p.Synced("a"))
	}
	p.Crash(1)
	checkCall(t, p, toRead("a"), "abcd", api.OK)
	if p.Synced("a") != 4 {
		t.Errorf("Synced %d", p.Synced("a"))
	}
	checkCall(t, p, toAppend("b", "123456"), "", api.ErrFull)
	p.Arm(1)
	checkCall(t, p, toAppend("a", "x"), "", api.OK)
	checkCall(t, p, toSync("a"), "", api.ErrDown)
	checkCall(t, p, toRead("a"), "", api.ErrDown)
	p.Crash()
	checkCall(t, p, toRead("a"), "abcd", api.OK)
}

// TestNew is of P10.1: rooms at their bounds and beyond.
func TestNew(t *testing.T) {
	for _, room := range []int{least, least + 1, -maxRoom, -2, -1, maxRoom + 1, maxRoom + 2, 1 << 29, 1 << 31, 1 << 32, 1<<32 + 1, greatest - 1, greatest} {
		if p, e := plate.New(room); p != nil || e != api.ErrArg {
			t.Errorf("New(%d): %v, %d", room, p != nil, e)
		}
	}
	for _, room := range []int{0, 1, 2, 9, 4096, maxRoom - 1, maxRoom} {
		p := of(t, room)
		check(t, p)
		checkDown(t, p, false)
		for range 2000 {
			checkOK(t, p, toAppend("a", ""), toSync("a"), toCut("a", 0))
		}
		checkDown(t, p, false)
		check(t, p)
		if room > 4096 {
			continue
		}
		checkCall(t, p, toAppend("a", strings.Repeat("b", room+1)), "", api.ErrFull)
		check(t, p)
		checkOK(t, p, toAppend("a", strings.Repeat("b", room)), toAppend("b", ""))
		checkCall(t, p, toAppend("a", "b"), "", api.ErrFull)
		checkCall(t, p, toAppend("b", "b"), "", api.ErrFull)
		if p.Used() != room {
			t.Errorf("Used: %d of %d", p.Used(), room)
		}
	}
}

// TestNewApart is of P10.1: each plate has files and a room of its own.
func TestNewApart(t *testing.T) {
	p, q := of(t, 3), of(t, 3)
	checkOK(t, p, toAppend("a", "abc"))
	check(t, q)
	checkOK(t, q, toAppend("a", "de"), toSync("a"))
	check(t, p, file{"a", "", "abc"})
	p.Arm(0)
	checkCall(t, p, toSync("a"), "", api.ErrDown)
	checkDown(t, q, false)
	q.Crash()
	checkDown(t, p, true)
	check(t, p, file{"a", "", "abc"})
	check(t, q, file{"a", "de", ""})
}

// TestGreatestRoom is of P10.1 and P10.2: a plate of the greatest room, filled by many files and by one.
func TestGreatestRoom(t *testing.T) {
	part := make([]byte, 1<<20)
	p := of(t, maxRoom)
	for i := range 255 {
		if e := p.Append(string([]byte{byte(i)}), part); e != api.OK {
			t.Fatalf("file %d: %d", i, e)
		}
	}
	if e := p.Append("last", part[1:]); e != api.OK {
		t.Fatal(e)
	}
	for _, name := range []string{"last", "\x00", "new"} {
		if e := p.Append(name, part[:2]); e != api.ErrFull {
			t.Errorf("%q: %d", name, e)
		}
	}
	if e := p.Append("last", part[:1]); e != api.OK || p.Used() != maxRoom || len(p.Names()) != 256 {
		t.Errorf("%d, %d used, %d files", e, p.Used(), len(p.Names()))
	}
	for _, name := range []string{"last", "\x00", "new"} {
		if e := p.Append(name, part[:1]); e != api.ErrFull {
			t.Errorf("%q: %d", name, e)
		}
	}
	p.Crash()
	if p.Used() != 0 || len(p.Names()) != 0 {
		t.Errorf("%d used, %d files", p.Used(), len(p.Names()))
	}
	huge := make([]byte, maxRoom+1)
	if e := p.Append("a", huge); e != api.ErrFull || p.Used() != 0 {
		t.Errorf("%d, %d used", e, p.Used())
	}
	if e := p.Append("a", huge[1:]); e != api.OK || p.Used() != maxRoom {
		t.Errorf("%d, %d used", e, p.Used())
	}
}

// TestNameBounds is of P10.2: each call at names of all lengths, of bytes that are no text, and at what is no name.
func TestNameBounds(t *testing.T) {
	p := of(t, 100000)
	m := &model{room: 100000}
	for _, name := range goodNames() {
		checkModel(t, p, m, toAppend(name, "of "+name))
		checkModel(t, p, m, toSync(name))
		checkModel(t, p, m, toAppend(name, "more"))
	}
	for _, name := range goodNames() {
		checkCall(t, p, toRead(name), "of "+name+"more", api.OK)
		if got := p.Synced(name); got != 3+len(name) {
			t.Errorf("Synced(%q): %d", name, got)
		}
	}
	for _, name := range badNames() {
		for _, n := range []int{least, -1, 0, 1, 5, greatest} {
			for _, c := range []call{toAppend(name, ""), toAppend(name, "bytes"), toSync(name), toCut(name, n), toRead(name)} {
				checkCall(t, p, c, "", api.ErrArg)
			}
		}
		if got := p.Synced(name); got != 0 {
			t.Errorf("Synced of %d bytes: %d", len(name), got)
		}
	}
	checkAlike(t, p, m)
	for i, name := range goodNames() {
		checkModel(t, p, m, toCut(name, i%3))
	}
}

// TestNil is of P10.2 and P10.6: every call of a nil plate.
func TestNil(t *testing.T) {
	var p *plate.Plate
	for _, name := range slices.Concat(goodNames(), badNames()) {
		for _, n := range []int{least, -1, 0, 1, greatest} {
			for _, c := range []call{toAppend(name, ""), toAppend(name, "a"), toSync(name), toCut(name, n), toRead(name)} {
				checkCall(t, p, c, "", api.ErrNil)
			}
		}
		if p.Append(name, nil) != api.ErrNil || p.Synced(name) != 0 {
			t.Errorf("%q", name)
		}
		if b, e := p.Read(name); len(b) > 0 || e != api.ErrNil {
			t.Errorf("Read(%q): %q, %d", name, b, e)
		}
	}
	for _, n := range []int{least, -1, 0, 1, greatest} {
		p.Arm(n)
		p.Crash()
		p.Crash(n)
		p.Crash(n, n, n)
		if len(p.Names()) > 0 || p.Used() != 0 || p.Down() || p.Copy() != nil {
			t.Errorf("behind %d: %q, %d, %t, %v", n, p.Names(), p.Used(), p.Down(), p.Copy() != nil)
		}
	}
}

// two answers a plate of ten bytes with two files, and calls that each have an error of their own there, or none.
func two() (begin []call, files []file, own map[api.Errno][]call) {
	begin = []call{toAppend("a", "abc"), toSync("a"), toAppend("a", "de"), toAppend("b", "f")}
	files = []file{{"a", "abc", "de"}, {"b", "", "f"}}
	return begin, files, map[api.Errno][]call{
		api.ErrFull:  {toAppend("a", "12345"), toAppend("c", "12345")},
		api.ErrRange: {toCut("a", 6), toCut("a", -1), toCut("c", 1), toCut("b", least), toCut("b", greatest)},
		api.OK:       {toAppend("a", "1"), toAppend("a", ""), toAppend("c", "1234"), toAppend("c", ""), toSync("a"), toSync("b"), toSync("c"), toCut("a", 5), toCut("a", 2), toCut("b", 0), toCut("c", 0)},
	}
}

// TestFirstError is of P10.2: which error is answered where several apply, and that nothing has changed.
func TestFirstError(t *testing.T) {
	begin, files, own := two()
	armed := func() *plate.Plate {
		p := of(t, 10, begin...)
		p.Arm(0)
		return p
	}
	own[api.OK] = append(own[api.OK], toRead("c"))
	for e, calls := range own {
		for _, c := range calls {
			for _, bad := range badNames() {
				checkCall(t, nil, c.named(bad), "", api.ErrNil)
				for _, p := range []*plate.Plate{of(t, 10, begin...), outOf(t, 10, begin...), armed()} {
					down := p.Down()
					checkCall(t, p, c.named(bad), "", api.ErrArg)
					checkDown(t, p, down)
					check(t, p, files...)
				}
			}
			checkCall(t, nil, c, "", api.ErrNil)
			p := outOf(t, 10, begin...)
			for range 3 {
				checkCall(t, p, c, "", api.ErrDown)
				check(t, p, files...)
			}
			p = of(t, 10, begin...)
			checkCall(t, p, c, "", e)
			checkDown(t, p, false)
			if e != api.OK {
				check(t, p, files...)
			}
			if !c.changes() {
				continue
			}
			p = armed()
			checkCall(t, p, c, "", api.ErrDown)
			checkDown(t, p, true)
			check(t, p, files...)
		}
	}
}

// TestAppend is of P10.2: no bytes, just the room that is left and one byte more, to a file that is there and one that isn't.
func TestAppend(t *testing.T) {
	p := of(t, 8)
	if e := p.Append("a", nil); e != api.OK {
		t.Errorf("nil: %d", e)
	}
	if e := p.Append("a", []byte{}); e != api.OK {
		t.Errorf("no bytes: %d", e)
	}
	check(t, p)
	checkOK(t, p, toSync("a"))
	check(t, p)
	checkOK(t, p, toAppend("a", "abc"))
	check(t, p, file{"a", "", "abc"})
	checkOK(t, p, toSync("a"), toAppend("a", ""))
	check(t, p, file{"a", "abc", ""})
	checkOK(t, p, toAppend("a", "d"), toAppend("a", ""), toAppend("b", ""))
	check(t, p, file{"a", "abc", "d"})
	for _, name := range []string{"a", "b"} {
		checkCall(t, p, toAppend(name, "12345"), "", api.ErrFull)
		checkCall(t, p, toAppend(name, strings.Repeat("1", 5000)), "", api.ErrFull)
		check(t, p, file{"a", "abc", "d"})
	}
	q := p.Copy()
	checkOK(t, p, toAppend("a", "1234"))
	check(t, p, file{"a", "abc", "d1234"})
	checkOK(t, q, toAppend("b", "1234"))
	check(t, q, file{"a", "abc", "d"}, file{"b", "", "1234"})
	for _, full := range []*plate.Plate{p, q} {
		was := filesOf(t, full)
		for _, name := range []string{"a", "b", "c"} {
			checkOK(t, full, toAppend(name, ""))
			checkCall(t, full, toAppend(name, "1"), "", api.ErrFull)
			if e := full.Append(name, nil); e != api.OK {
				t.Errorf("nil to %q of a full plate: %d", name, e)
			}
			check(t, full, was...)
		}
	}
	// Room that comes back is room again.
	checkOK(t, p, toCut("a", 6))
	checkCall(t, p, toAppend("b", "123"), "", api.ErrFull)
	checkOK(t, p, toAppend("b", "12"))
	check(t, p, file{"a", "abc", "d12"}, file{"b", "", "12"})
	p.Crash()
	checkCall(t, p, toAppend("b", "123456"), "", api.ErrFull)
	checkOK(t, p, toAppend("b", "12345"))
	check(t, p, file{"a", "abc", ""}, file{"b", "", "12345"})
}

// TestAppendBytes is of P10.2: all bytes, in parts of every length.
func TestAppendBytes(t *testing.T) {
	var whole []byte
	for n := range 700 {
		whole = append(whole, byte(n*7+n/256))
	}
	for n := 1; n <= len(whole); n += 1 + n/8 {
		p := of(t, len(whole))
		for from := 0; from < len(whole); from += n {
			checkOK(t, p, toAppend("a", string(whole[from:min(from+n, len(whole))])))
		}
		check(t, p, file{"a", "", string(whole)})
	}
}

// TestSync is of P10.2: a file's bytes are synced, no other's; a file that isn't there doesn't come to be.
func TestSync(t *testing.T) {
	p := of(t, 20, toSync("a"), toSync("b"))
	check(t, p)
	checkOK(t, p, toAppend("a", "abc"), toAppend("b", "de"), toSync("a"))
	check(t, p, file{"a", "abc", ""}, file{"b", "", "de"})
	checkOK(t, p, toSync("a"), toSync("c"))
	check(t, p, file{"a", "abc", ""}, file{"b", "", "de"})
	checkOK(t, p, toAppend("a", "f"), toAppend("b", "g"), toSync("b"))
	check(t, p, file{"a", "abc", "f"}, file{"b", "deg", ""})
	checkOK(t, p, toSync("a"))
	check(t, p, file{"a", "abcf", ""}, file{"b", "deg", ""})
	p.Crash()
	check(t, p, file{"a", "abcf", ""}, file{"b", "deg", ""})
	checkOK(t, p, toCut("a", 0), toSync("a"))
	check(t, p, file{"b", "deg", ""})
}

// TestCut is of P10.2: at every place of a file, and beyond; what is cut stays so behind a crash.
func TestCut(t *testing.T) {
	const bytes = "0123456789"
	for synced := range 11 {
		for _, n := range []int{least, least + 1, -11, -10, -2, -1, 0, 1, 2, 3, 4, 5, 6, 7, 8, 9, 10, 11, 12, 20, 1 << 32, greatest - 1, greatest} {
			p := of(t, 12, toAppend("a", bytes[:synced]), toSync("a"), toAppend("a", bytes[synced:]), toAppend("b", "x"))
			other := file{"b", "", "x"}
			if n < 0 || n > 10 {
				checkCall(t, p, toCut("a", n), "", api.ErrRange)
				check(t, p, file{"a", bytes[:synced], bytes[synced:]}, other)
				continue
			}
			checkOK(t, p, toCut("a", n))
			first := min(n, synced)
			if n == 0 {
				check(t, p, other)
			} else {
				check(t, p, file{"a", bytes[:first], bytes[first:n]}, other)
			}
			checkCall(t, p, toRead("a"), bytes[:n], api.OK)
			checkCall(t, p, toCut("a", n+1), "", api.ErrRange)
			checkOK(t, p, toCut("a", n))
			q := p.Copy()
			p.Crash()
			checkCall(t, p, toRead("a"), bytes[:first], api.OK)
			q.Crash(all(2)...)
			checkCall(t, q, toRead("a"), bytes[:n], api.OK)
			if q.Synced("a") != n || q.Used() != n+1 {
				t.Errorf("cut at %d: %d synced, %d used", n, q.Synced("a"), q.Used())
			}
		}
	}
}

// TestCutNone is of P10.2: a file that isn't there.
func TestCutNone(t *testing.T) {
	for _, p := range []*plate.Plate{of(t, 9), of(t, 9, toAppend("b", "123")), of(t, 9, toAppend("a", "12"), toCut("a", 0))} {
		was := filesOf(t, p)
		checkOK(t, p, toCut("a", 0))
		for _, n := range []int{least, -1, 1, 2, 9, greatest} {
			checkCall(t, p, toCut("a", n), "", api.ErrRange)
		}
		check(t, p, was...)
	}
}

// TestCutAppend is of P10.2 and P10.5: what comes behind a cut stands in the place of what was cut, and isn't synced.
func TestCutAppend(t *testing.T) {
	begin := []call{toAppend("a", "abcd"), toSync("a"), toAppend("a", "ef")}
	for n := range 7 {
		p := of(t, 9, append(slices.Clone(begin), toCut("a", n), toAppend("a", "XYZ"))...)
		first := min(n, 4)
		check(t, p, file{"a", "abcdef"[:first], "abcdef"[first:n] + "XYZ"})
		for more := range 8 {
			q := p.Copy()
			q.Crash(more)
			want := ("abcdef"[:n] + "XYZ")[:min(first+more, n+3)]
			checkCall(t, q, toRead("a"), want, api.OK)
			if q.Used() != len(want) || q.Synced("a") != len(want) {
				t.Errorf("cut at %d, keeping %d: %d used, %d synced", n, more, q.Used(), q.Synced("a"))
			}
		}
		checkOK(t, p, toSync("a"))
		check(t, p, file{"a", "abcdef"[:n] + "XYZ", ""})
	}
	p := of(t, 9, append(begin, toCut("a", 0), toAppend("a", "g"))...)
	check(t, p, file{"a", "", "g"})
	p.Crash()
	check(t, p)
}

// TestRead is of P10.2: no bytes of a file that isn't there; reading changes nothing.
func TestRead(t *testing.T) {
	p := of(t, 9, toAppend("a", "abc"), toSync("a"), toAppend("a", "\x00\xff"))
	for range 3 {
		checkCall(t, p, toRead("a"), "abc\x00\xff", api.OK)
		for _, name := range []string{"b", "A", "aa", "a\x00", strings.Repeat("a", 64)} {
			checkCall(t, p, toRead(name), "", api.OK)
		}
	}
	check(t, p, file{"a", "abc", "\x00\xff"})
}

// TestNames is of P10.3: rising, by bytes, whatever came first.
func TestNames(t *testing.T) {
	want := goodNames()
	chance := rand.New(rand.NewSource(1))
	for range 20 {
		p := of(t, 1000)
		for _, i := range chance.Perm(len(want)) {
			checkOK(t, p, toAppend(want[i], "z"))
		}
		for range 3 {
			if got := p.Names(); !slices.Equal(got, want) {
				t.Fatalf("%q, not %q", got, want)
			}
		}
		var left []string
		for i, name := range want {
			if i%3 == 0 {
				checkOK(t, p, toCut(name, 0))
				continue
			}
			left = append(left, name)
		}
		if got := p.Names(); !slices.Equal(got, left) {
			t.Fatalf("%q, not %q", got, left)
		}
	}
	if got := of(t, 9).Names(); len(got) != 0 {
		t.Errorf("of a new plate: %q", got)
	}
	p := of(t, 9, toAppend("b", "1"), toAppend("B", "1"), toAppend("ba", "1"), toAppend("\xff", "1"), toAppend("é", "1"), toAppend("a", "1"), toAppend("b\x00", "1"))
	if got := p.Names(); !slices.Equal(got, []string{"B", "a", "b", "b\x00", "ba", "é", "\xff"}) {
		t.Errorf("%q", got)
	}
}

// TestUsedSynced is of P10.3: of files that are there, and that aren't.
func TestUsedSynced(t *testing.T) {
	p := of(t, 20)
	checkTold := func(used int, synced ...int) {
		t.Helper()
		for i, n := range synced {
			if got := p.Synced([]string{"a", "b", "c"}[i]); got != n || p.Used() != used {
				t.Errorf("Used %d, Synced %d of file %d, not %d, %d", p.Used(), got, i, used, n)
			}
		}
	}
	checkTold(0, 0, 0, 0)
	checkOK(t, p, toAppend("a", "abc"))
	checkTold(3, 0, 0, 0)
	checkOK(t, p, toSync("a"), toAppend("b", "de"), toSync("c"))
	checkTold(5, 3, 0, 0)
	checkOK(t, p, toAppend("a", "fg"), toSync("b"))
	checkTold(7, 3, 2, 0)
	checkOK(t, p, toCut("a", 4))
	checkTold(6, 3, 2, 0)
	checkOK(t, p, toCut("a", 2))
	checkTold(4, 2, 2, 0)
	checkOK(t, p, toCut("a", 0))
	checkTold(2, 0, 2, 0)
	checkCall(t, p, toAppend("b", strings.Repeat("b", 19)), "", api.ErrFull)
	checkCall(t, p, toCut("b", 3), "", api.ErrRange)
	checkTold(2, 0, 2, 0)
	p.Arm(0)
	checkCall(t, p, toCut("b", 0), "", api.ErrDown)
	checkTold(2, 0, 2, 0)
	p.Crash()
	checkTold(2, 0, 2, 0)
	for _, name := range badNames() {
		if p.Synced(name) != 0 {
			t.Errorf("Synced of %d bytes: %d", len(name), p.Synced(name))
		}
	}
}

// changesDone is how many changes a plate does until its power goes out: most at most. They are such as change no file.
func changesDone(t *testing.T, p *plate.Plate, most int) int {
	t.Helper()
	idle := []call{toAppend("idle", ""), toSync("idle"), toCut("idle", 0)}
	for n := range most {
		checkDown(t, p, false)
		if _, e := idle[n%3].do(p); e == api.ErrDown {
			checkDown(t, p, true)
			return n
		}
	}
	return most
}

// TestArm is of P10.3: by which change the power goes out.
func TestArm(t *testing.T) {
	const many = 300
	for _, n := range []int{least, least + 1, -2, -1, 0, 1, 2, 3, 4, 7, 100, many - 1, many, 1 << 32, greatest - 1, greatest} {
		want := many
		if n >= 0 {
			want = min(n, many)
		}
		p := of(t, 9, toArm(n))
		checkDown(t, p, false)
		if got := changesDone(t, p, many); got != want {
			t.Errorf("Arm(%d): %d changes", n, got)
		}
		// Armed anew: the last number alone counts.
		for _, before := range []int{least, -1, 0, 1, 2, 5, greatest} {
			p := of(t, 9, toArm(before), toArm(n))
			if got := changesDone(t, p, many); got != want {
				t.Errorf("Arm(%d), Arm(%d): %d changes", before, n, got)
			}
			p = of(t, 9, toArm(max(before, 2)), toSync("a"), toAppend("a", ""), toArm(n))
			if got := changesDone(t, p, many); got != want {
				t.Errorf("Arm(%d), two changes, Arm(%d): %d changes", before, n, got)
			}
		}
		// While the power is out nothing is done by it, and nothing behind a crash.
		p = outOf(t, 9, toAppend("a", "bc"))
		p.Arm(n)
		checkDown(t, p, true)
		checkCall(t, p, toSync("a"), "", api.ErrDown)
		check(t, p, file{"a", "", "bc"})
		p.Crash(2)
		checkDown(t, p, false)
		check(t, p, file{"a", "bc", ""})
		if got := changesDone(t, p, many); got != many {
			t.Errorf("Arm(%d) while the power is out: %d changes", n, got)
		}
	}
}

// TestArmTwice is of P10.3: a plate whose power went out, armed again behind a crash.
func TestArmTwice(t *testing.T) {
	p := of(t, 9)
	for _, n := range []int{0, 1, 0, 2, 5, 0, 0} {
		p.Arm(n)
		if got := changesDone(t, p, 20); got != n {
			t.Errorf("Arm(%d): %d changes", n, got)
		}
		p.Crash()
		if got := changesDone(t, p, 20); got != 20 {
			t.Errorf("behind a crash: %d changes", got)
		}
	}
}

// TestCounted is of P10.3: a change that answers ErrFull or ErrRange counts as one that is done; and of the one by which the power goes out nothing is done.
func TestCounted(t *testing.T) {
	begin, _, own := two()
	for n := range 4 {
		for e, calls := range own {
			for _, c := range calls {
				p := of(t, 10, begin...)
				p.Arm(n)
				if n > 0 {
					checkCall(t, p, c, "", e)
				}
				if got := changesDone(t, p, 20) + min(n, 1); got != n {
					t.Errorf("%c %q %q %d: the power is out behind %d changes, not %d", c.kind, c.name, c.b, c.n, got, n)
				}
				p = of(t, 10, begin...)
				p.Arm(n)
				if got := changesDone(t, p, n); got != n {
					t.Errorf("Arm(%d): %d changes", n, got)
				}
				was := filesOf(t, p)
				for range 3 {
					checkCall(t, p, c, "", api.ErrDown)
					checkDown(t, p, true)
					check(t, p, was...)
				}
			}
		}
	}
}

// TestNotCounted is of P10.3: what answers ErrArg, a Read, and all that isn't a change, don't count.
func TestNotCounted(t *testing.T) {
	begin, files, _ := two()
	for n := range 4 {
		p := of(t, 10, begin...)
		p.Arm(n)
		for range 50 {
			checkCall(t, p, toRead("a"), "abcde", api.OK)
			checkCall(t, p, toRead("c"), "", api.OK)
			for _, bad := range badNames() {
				for _, c := range []call{toAppend(bad, "z"), toSync(bad), toCut(bad, 1), toRead(bad)} {
					checkCall(t, p, c, "", api.ErrArg)
				}
				p.Synced(bad)
			}
			p.Names()
			p.Used()
			p.Synced("a")
			p.Copy()
			checkDown(t, p, false)
		}
		check(t, p, files...)
		if got := changesDone(t, p, 50); got != n {
			t.Errorf("Arm(%d): %d changes", n, got)
		}
	}
}

// TestDown is of P10.2 and P10.3: while the power is out the calls that can't answer ErrDown answer as ever.
func TestDown(t *testing.T) {
	p := outOf(t, 9, toAppend("b", "abc"), toSync("b"), toAppend("b", "d"), toAppend("a", "ef"))
	for range 3 {
		for _, n := range []int{least, -1, 0, 1, 3, greatest} {
			for _, name := range []string{"a", "b", "c"} {
				for _, c := range []call{toAppend(name, ""), toAppend(name, "z"), toAppend(name, "0123456789"), toSync(name), toCut(name, n), toRead(name)} {
					checkCall(t, p, c, "", api.ErrDown)
				}
			}
		}
		if !slices.Equal(p.Names(), []string{"a", "b"}) || p.Used() != 6 || p.Synced("a") != 0 || p.Synced("b") != 3 || p.Synced("c") != 0 || !p.Down() {
			t.Errorf("%q, %d, %d, %d, %t", p.Names(), p.Used(), p.Synced("a"), p.Synced("b"), p.Down())
		}
	}
	check(t, p, file{"a", "", "ef"}, file{"b", "abc", "d"})
}

// TestCrash is of P10.4 and P10.5: keeps of every number, below and above what a file has, for plates that are down, armed, both (armed while down) or neither.
func TestCrash(t *testing.T) {
	begin := []call{toAppend("c", "12345"), toAppend("a", "abc"), toSync("a"), toAppend("a", "de"), toAppend("b", "fg"), toSync("b"), toAppend("d", "h")}
	m := &model{room: 20}
	for _, c := range begin {
		c.reckon(m)
	}
	keeps := []int{least, least + 1, -2, -1, 0, 1, 2, 3, 4, 5, 6, greatest - 5, greatest - 3, greatest - 1, greatest}
	var lists [][]int
	for _, k := range keeps {
		lists = append(lists, nil, []int{k}, []int{0, k}, []int{k, k}, []int{k, 1, 2}, []int{1, k, k, k}, []int{k, k, k, k, k}, []int{0, 0, 0, k, 9, 9}, slices.Repeat([]int{k}, 100))
		for _, l := range keeps {
			lists = append(lists, []int{k, l}, []int{l, 0, k}, []int{-1, k, l, 1})
		}
	}
	for _, l := range lists {
		want := m.copied()
		want.crash(l)
		for _, armed := range [][]int{nil, {0}, {1}, {greatest}, {-1}} {
			for _, p := range []*plate.Plate{of(t, 20, begin...), outOf(t, 20, begin...)} {
				for _, n := range armed {
					p.Arm(n)
				}
				p.Crash(l...)
				checkAlike(t, p, want)
				if got := changesDone(t, p, 5); got != 5 {
					t.Errorf("armed by %v ahead of a crash: %d changes behind it", armed, got)
				}
			}
		}
	}
}

// TestCrashNamed is of P10.4: crashes whose files are written out here.
func TestCrashNamed(t *testing.T) {
	begin := []call{toAppend("c", "12345"), toAppend("a", "abc"), toSync("a"), toAppend("a", "de"), toAppend("b", "fg"), toSync("b"), toAppend("d", "h")}
	for _, c := range []struct {
		keeps []int
		want  []file
	}{
		{nil, []file{{"a", "abc", ""}, {"b", "fg", ""}}},
		{[]int{1}, []file{{"a", "abcd", ""}, {"b", "fg", ""}}},
		{[]int{0, 0, 1}, []file{{"a", "abc", ""}, {"b", "fg", ""}, {"c", "1", ""}}},
		{[]int{2, 2, 2, 2}, []file{{"a", "abcde", ""}, {"b", "fg", ""}, {"c", "12", ""}, {"d", "h", ""}}},
		{[]int{3, 1, 5, 0}, []file{{"a", "abcde", ""}, {"b", "fg", ""}, {"c", "12345", ""}}},
		{[]int{-1, greatest, greatest, greatest, greatest}, []file{{"a", "abc", ""}, {"b", "fg", ""}, {"c", "12345", ""}, {"d", "h", ""}}},
		{[]int{greatest, least, least, 1}, []file{{"a", "abcde", ""}, {"b", "fg", ""}, {"d", "h", ""}}},
	} {
		for _, p := range []*plate.Plate{of(t, 20, begin...), outOf(t, 20, begin...)} {
			p.Crash(c.keeps...)
			check(t, p, c.want...)
			checkDown(t, p, false)
			// What stayed is synced: it stays.
			p.Crash()
			check(t, p, c.want...)
		}
	}
	p := of(t, 9)
	p.Crash(1, 2, 3)
	check(t, p)
	checkOK(t, p, toAppend("a", "a"), toAppend("b", "b"))
	p.Crash(0, 1)
	check(t, p, file{"b", "b", ""})
	// The file b is the first one now.
	checkOK(t, p, toAppend("b", "cd"))
	p.Crash(1)
	check(t, p, file{"b", "bc", ""})
	checkOK(t, p, toAppend("a", "xyz"), toAppend("b", "d"))
	p.Crash(2)
	check(t, p, file{"a", "xy", ""}, file{"b", "bc", ""})
}

// TestCopy is of P10.4: each of the two goes on alone, in whatever state it was copied.
func TestCopy(t *testing.T) {
	was := []file{{"a", "abc", "de"}, {"b", "", "f"}}
	begin := []call{toAppend("a", "abc"), toSync("a"), toAppend("a", "de"), toAppend("b", "f")}
	changes := []call{toAppend("a", "x"), toAppend("b", "xyz"), toAppend("c", "x"), toSync("a"), toSync("b"), toCut("a", 4), toCut("a", 1), toCut("a", 0), toCut("b", 0), toCrash(), toCrash(1), toCrash(0, 1)}
	for _, down := range []bool{false, true} {
		for _, c := range changes {
			for i := range 2 {
				p := of(t, 10, begin...)
				if down {
					p = outOf(t, 10, begin...)
				}
				pair := []*plate.Plate{p, p.Copy()}
				check(t, pair[1], was...)
				checkDown(t, pair[1], down)
				pair[i].Crash(all(2)...)
				checkDown(t, pair[1-i], down)
				checkOK(t, pair[i], c, toAppend("z", "z"))
				check(t, pair[1-i], was...)
				checkDown(t, pair[1-i], down)
			}
		}
	}
	// The room goes along, and is each one's own.
	p := of(t, 9, begin...)
	q := p.Copy()
	checkOK(t, p, toAppend("a", "123"))
	checkCall(t, p, toAppend("a", "4"), "", api.ErrFull)
	checkCall(t, q, toAppend("b", "1234"), "", api.ErrFull)
	checkOK(t, q, toAppend("b", "456"))
	check(t, p, file{"a", "abc", "de123"}, file{"b", "", "f"})
	check(t, q, file{"a", "abc", "de"}, file{"b", "", "f456"})
	empty := of(t, 0).Copy()
	check(t, empty)
	checkCall(t, empty, toAppend("a", "1"), "", api.ErrFull)
	checkOK(t, empty, toAppend("a", ""))
}

// TestCopyArmed is of P10.4: a copy of an armed plate is armed with what is left, and counts alone.
func TestCopyArmed(t *testing.T) {
	for _, n := range []int{-1, 0, 1, 2, 5} {
		want := n
		if n < 0 {
			want = 20
		}
		p := of(t, 9, toArm(n))
		for left := want; left >= 0; left-- {
			q := p.Copy()
			if got := changesDone(t, q, left+1); got != left && n >= 0 {
				t.Errorf("a copy of one with %d left: %d changes", left, got)
			}
			checkDown(t, q, n >= 0)
			checkDown(t, p, false)
			if left > 0 {
				checkOK(t, p, toSync("a"))
			}
		}
		q := p.Copy()
		q.Arm(3)
		p.Arm(7)
		if one, two := changesDone(t, p, 20), changesDone(t, q, 20); one != 7 || two != 3 {
			t.Errorf("each armed anew: %d, %d changes", one, two)
		}
	}
}

// TestCopies is of P10.4: copies of copies, each of which goes on by other calls.
func TestCopies(t *testing.T) {
	plates := []*plate.Plate{of(t, 100)}
	models := []*model{{room: 100}}
	for range 6 {
		for i := range plates {
			plates = append(plates, plates[i].Copy())
			models = append(models, models[i].copied())
		}
		for i := range plates {
			letter := string(rune('A' + i))
			checkModel(t, plates[i], models[i], toAppend("a", letter))
			if i%2 == 1 {
				checkModel(t, plates[i], models[i], toSync("a"))
			}
			if i%5 == 0 {
				checkModel(t, plates[i], models[i], toAppend("b", letter+letter))
			}
		}
		for i := range plates {
			checkAlike(t, plates[i], models[i])
		}
	}
}

// chancyCall is a call by chance, of a plate of some 40 bytes.
func chancyCall(chance *rand.Rand) call {
	number := func(most int) int {
		switch chance.Intn(20) {
		case 0:
			return least
		case 1:
			return greatest
		}
		return chance.Intn(most+2) - 1
	}
	name := []string{"a", "b", "aa", "\xff", "a\x00", "B"}[chance.Intn(6)]
	if chance.Intn(15) == 0 {
		name = []string{"", strings.Repeat("l", 64), strings.Repeat("l", 65)}[chance.Intn(3)]
	}
	switch chance.Intn(16) {
	case 0, 1, 2, 3, 4:
		b := make([]byte, chance.Intn(16)>>chance.Intn(4))
		chance.Read(b)
		return toAppend(name, string(b))
	case 5, 6, 7:
		return toSync(name)
	case 8, 9, 10:
		return toCut(name, number(16))
	case 11, 12:
		return toRead(name)
	case 13:
		return toArm(number(6))
	}
	keeps := make([]int, chance.Intn(8))
	for i := range keeps {
		keeps[i] = number(16)
	}
	return toCrash(keeps...)
}

// TestByChance is of P10.1 to P10.5: scripts of all calls, held against the model, with copies that go on alone.
func TestByChance(t *testing.T) {
	chance := rand.New(rand.NewSource(2))
	for range 1500 {
		room := chance.Intn(50)
		plates, models := []*plate.Plate{of(t, room)}, []*model{{room: room}}
		for range 100 {
			i := chance.Intn(len(plates))
			p, m := plates[i], models[i]
			if chance.Intn(40) == 0 && len(plates) < 4 {
				plates, models = append(plates, p.Copy()), append(models, m.copied())
			}
			checkModel(t, p, m, chancyCall(chance))
			if t.Failed() {
				return
			}
		}
		for i := range plates {
			checkAlike(t, plates[i], models[i])
		}
	}
}

// TestAllShort is of P10.1 to P10.5: all scripts of some calls, one a branch of the one ahead of it.
func TestAllShort(t *testing.T) {
	alphabet := []call{toAppend("a", "x"), toAppend("a", "yz"), toAppend("b", "w"), toSync("a"), toSync("b"), toCut("a", 0), toCut("a", 1), toCut("a", 2), toArm(0), toArm(1), toCrash(), toCrash(1), toCrash(0, 1)}
	var walk func(p *plate.Plate, m *model, depth int)
	walk = func(p *plate.Plate, m *model, depth int) {
		if depth == 0 {
			return
		}
		for _, c := range alphabet {
			q, n := p.Copy(), m.copied()
			checkModel(t, q, n, c)
			walk(q, n, depth-1)
			if t.Failed() {
				t.Fatalf("%d from the end: %c %q %q %d %v of %q", depth, c.kind, c.name, c.b, c.n, c.keeps, m.files)
			}
		}
		checkAlike(t, p, m)
	}
	for _, begin := range [][]call{nil, {toAppend("a", "st"), toSync("a"), toAppend("a", "u")}} {
		p, m := of(t, 4), &model{room: 4}
		for _, c := range begin {
			checkModel(t, p, m, c)
		}
		walk(p, m, 4)
	}
}

// TestCrashBegins is of P10.5: behind a crash each file is a beginning of what it was, and has all that was synced.
func TestCrashBegins(t *testing.T) {
	chance := rand.New(rand.NewSource(3))
	for range 2000 {
		p := of(t, chance.Intn(60))
		for range 40 {
			c := chancyCall(chance)
			if c.kind != aCrash {
				c.do(p)
				continue
			}
			was := filesOf(t, p)
			p.Crash(c.keeps...)
			checkDown(t, p, false)
			at := map[string]file{}
			for _, f := range filesOf(t, p) {
				at[f.name] = f
			}
			for _, f := range was {
				is := at[f.name]
				if !strings.HasPrefix(f.bytes(), is.synced) || !strings.HasPrefix(is.synced, f.synced) || is.rest != "" {
					t.Fatalf("%q became %q", f, is)
				}
				delete(at, f.name)
			}
			if len(at) > 0 {
				t.Fatalf("came to be by a crash: %q", at)
			}
		}
	}
}

// TestMemoryIn is of P10.6: bytes, names and keeps aren't changed, nor the room behind their end, and may be written over behind the call.
func TestMemoryIn(t *testing.T) {
	p := of(t, 100)
	room := []byte("some bytes, and room behind them")
	name := []byte("the name")
	b := room[:10]
	for range 3 {
		if e := p.Append(unsafe.String(&name[0], len(name)), b); e != api.OK {
			t.Fatal(e)
		}
		if string(room) != "some bytes, and room behind them" || string(name) != "the name" {
			t.Fatalf("%q, %q", room, name)
		}
		for i := range room {
			room[i] = 'x'
		}
		for i := range name {
			name[i] = 'y'
		}
		if b, _ := p.Read("yyyyyyyy"); len(b) > 0 {
			t.Errorf("the name is kept: %q", b)
		}
		copy(room, "some bytes, and room behind them")
		copy(name, "the name")
	}
	for i := range name {
		name[i] = 'z'
	}
	check(t, p, file{"the name", "", strings.Repeat("some bytes", 3)})
	for _, c := range []call{toSync(""), toCut("", 29), toRead("")} {
		copy(name, "the name")
		if _, e := c.named(unsafe.String(&name[0], len(name))).do(p); e != api.OK || string(name) != "the name" {
			t.Errorf("%c: %d, %q", c.kind, e, name)
		}
		for i := range name {
			name[i] = 'z'
		}
	}
	check(t, p, file{"the name", strings.Repeat("some bytes", 3)[:29], ""})
	checkOK(t, p, toAppend("the name", "more"))
	keeps := []int{2, 7, -1, greatest, 5, 6}
	p.Crash(keeps[:4]...)
	if !slices.Equal(keeps, []int{2, 7, -1, greatest, 5, 6}) {
		t.Errorf("%v", keeps)
	}
	for i := range keeps {
		keeps[i] = 0
	}
	check(t, p, file{"the name", strings.Repeat("some bytes", 3)[:29] + "mo", ""})
}

// shared tells whether two texts share memory.
func shared(a, b string) bool {
	one, two := uintptr(unsafe.Pointer(unsafe.StringData(a))), uintptr(unsafe.Pointer(unsafe.StringData(b)))
	return one < two+uintptr(len(b)) && two < one+uintptr(len(a))
}

// TestMemoryOut is of P10.6: what is answered is new memory.
func TestMemoryOut(t *testing.T) {
	long, name := strings.Repeat("long ", 9), "a name of some bytes"
	p := of(t, 1000, toAppend(name, long), toAppend("other name", "b"))
	q := p.Copy()
	plates := []*plate.Plate{p, q, p.Copy(), q.Copy()}
	want := []file{{name, "", long}, {"other name", "", "b"}}
	var names []string
	for range 3 {
		for _, p := range plates {
			b, _ := p.Read(name)
			c, _ := p.Read(name)
			for i := range b {
				b[i] = 'x'
			}
			_ = append(b, "behind the end, where there may be room"...)
			if string(c) != long {
				t.Errorf("two answers share memory: %q", c)
			}
			checkOK(t, p, toCut(name, len(long)-1), toAppend(name, " "))
			if string(c) != long {
				t.Errorf("an answer is changed by a call: %q", c)
			}
			for i := range c[:cap(c)] {
				c[:cap(c)][i] = 'y'
			}
			l := p.Names()
			names = append(names, l...)
			for i := range l {
				l[i] = "changed"
			}
			_ = append(l, "more")
			check(t, p, want...)
		}
	}
	names = append(names, name)
	for i, s := range names {
		for _, other := range names[:i] {
			if shared(s, other) {
				t.Errorf("%q and %q share memory", s, other)
			}
		}
	}
	checkOK(t, p, toSync(name), toAppend(name, "end"))
	b, _ := p.Read(name)
	p.Crash(1)
	for i := range b {
		b[i] = 'x'
	}
	check(t, p, file{name, long + "e", ""})
	for _, p := range plates[1:] {
		check(t, p, want...)
	}
}

// TestGone is of the rule that no more is kept than is promised: files that were long hold no memory for what is gone.
func TestGone(t *testing.T) {
	held := func() uint64 {
		var m runtime.MemStats
		runtime.GC()
		runtime.ReadMemStats(&m)
		return m.HeapAlloc
	}
	part := bytes.Repeat([]byte("a"), 1<<20)
	p := of(t, 1<<20+1000)
	was := held()
	for i := range 64 {
		name := string([]byte{'n', byte(i)})
		if e := p.Append(name, part); e != api.OK {
			t.Fatal(e)
		}
		if i%2 == 0 {
			checkOK(t, p, toCut(name, 1))
			continue
		}
		p.Crash(append(all(i), 1)...)
	}
	if now := held(); now > was+1<<22 {
		t.Errorf("%d bytes are held for %d", now-was, p.Used())
	}
	runtime.KeepAlive(p)
	runtime.KeepAlive(part)
}

// TestEnds is of P1: many files, many keeps, many changes.
func TestEnds(t *testing.T) {
	const many = 1 << 15
	p := of(t, maxRoom)
	for i := range many {
		checkOK(t, p, toAppend(strings.Repeat("n", 60)+string([]byte{byte(i >> 8), byte(i)}), "ab"))
	}
	if got := p.Names(); len(got) != many || !slices.IsSorted(got) || p.Used() != 2*many {
		t.Errorf("%d names, %d used", len(got), p.Used())
	}
	q := p.Copy()
	q.Crash(make([]int, 1<<20)...)
	check(t, q)
	q = p.Copy()
	q.Crash(all(1 << 20)...)
	if len(q.Names()) != many || q.Used() != 2*many || q.Synced(strings.Repeat("n", 60)+"\x00\x00") != 2 {
		t.Errorf("%d names, %d used", len(q.Names()), q.Used())
	}
	one := of(t, maxRoom)
	for range 1 << 20 {
		if e := one.Append("a", []byte("b")); e != api.OK {
			t.Fatal(e)
		}
	}
	b, e := one.Read("a")
	if e != api.OK || len(b) != 1<<20 || one.Used() != 1<<20 {
		t.Errorf("%d bytes, %d, %d used", len(b), e, one.Used())
	}
}
