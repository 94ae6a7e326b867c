package wal_test

import (
	"bytes"
	"fmt"
	"maps"
	"math"
	"math/rand"
	"runtime"
	"slices"
	"strings"
	"testing"

	"signet/api"
	"signet/plate"
	"signet/wal"
	"signet/wire"
)

const (
	least    = math.MinInt
	greatest = math.MaxInt

	maxRecord = 60000
	maxPart   = 1 << 20
	maxRoom   = 1 << 28
	more      = 64 // bytes beside a record or a base, for which there is room enough
)

// The face, as the chapter has it.
var (
	_ func(p *plate.Plate, name string, most int) (w *wal.Wal, base []byte, records [][]byte, e api.Errno) = wal.Open
	_ func(*wal.Wal, []byte) api.Errno                                                                     = (*wal.Wal).Append
	_ func(*wal.Wal) api.Errno                                                                             = (*wal.Wal).Sync
	_ func(*wal.Wal, []byte) api.Errno                                                                     = (*wal.Wal).Checkpoint
	_ func(*wal.Wal) int                                                                                   = (*wal.Wal).Count
)

// content is what a log has: a base, and records.
type content struct {
	base    string
	records []string
}

func of(base string, records ...string) content { return content{base, records} }

func (c content) equals(d content) bool {
	return c.base == d.base && slices.Equal(c.records, d.records)
}

func (c content) String() string {
	out := fmt.Sprintf("%d bytes %.20q, %d records:", len(c.base), c.base, len(c.records))
	for i, r := range c.records {
		if i < 20 {
			out += fmt.Sprintf(" %.10q", r)
		}
	}
	return out
}

// told is what Open has answered.
func told(base []byte, records [][]byte) content {
	out := content{base: string(base)}
	for _, r := range records {
		out.records = append(out.records, string(r))
	}
	return out
}

// on answers a plate of so much room.
func on(t *testing.T, room int) *plate.Plate {
	t.Helper()
	p, e := plate.New(room)
	if e != api.OK {
		t.Fatal(e)
	}
	return p
}

// open opens a log that can be opened.
func open(t *testing.T, p *plate.Plate, name string, most int) (*wal.Wal, content) {
	t.Helper()
	w, base, records, e := wal.Open(p, name, most)
	if e != api.OK || w == nil {
		t.Fatalf("Open(%q, %d): %v, %d", name, most, w != nil, e)
	}
	if w.Count() != len(records) {
		t.Fatalf("Count: %d of %d", w.Count(), len(records))
	}
	return w, told(base, records)
}

// checkOpen opens a log that has just that.
func checkOpen(t *testing.T, p *plate.Plate, name string, most int, want content) *wal.Wal {
	t.Helper()
	w, got := open(t, p, name, most)
	if !got.equals(want) {
		t.Fatalf("Open(%q, %d): %v; want %v", name, most, got, want)
	}
	return w
}

// checkNoOpen tries to open a log that can't be opened.
func checkNoOpen(t *testing.T, p *plate.Plate, name string, most int, want api.Errno) {
	t.Helper()
	if w, base, records, e := wal.Open(p, name, most); e != want || w != nil || base != nil || records != nil {
		t.Errorf("Open(%d bytes, %d): %v, %q, %q, %d; want %d", len(name), most, w != nil, base, records, e, want)
	}
}

// checkIs holds an error against what it has to be.
func checkIs(t *testing.T, got, want api.Errno) {
	t.Helper()
	if got != want {
		t.Errorf("%d; want %d", got, want)
	}
}

func checkCount(t *testing.T, w *wal.Wal, want int) {
	t.Helper()
	if got := w.Count(); got != want {
		t.Errorf("Count: %d; want %d", got, want)
	}
}

// The calls of a log.
const (
	anAppend    = "append"
	aSync       = "sync"
	aCheckpoint = "checkpoint"
	anOpen      = "open"
)

// call is one of them, with what is handed in.
type call struct {
	kind, data string
}

func toAppend(data string) call     { return call{anAppend, data} }
func toSync() call                  { return call{kind: aSync} }
func toCheckpoint(data string) call { return call{aCheckpoint, data} }
func (c call) String() string       { return fmt.Sprintf("%s %.20q (%d)", c.kind, c.data, len(c.data)) }

// do does a call of a log that is open.
func (c call) do(w *wal.Wal) api.Errno {
	switch c.kind {
	case anAppend:
		return w.Append([]byte(c.data))
	case aCheckpoint:
		return w.Checkpoint([]byte(c.data))
	}
	return w.Sync()
}

func checkOK(t *testing.T, w *wal.Wal, calls ...call) {
	t.Helper()
	for _, c := range calls {
		if e := c.do(w); e != api.OK {
			t.Fatalf("%v: %d", c, e)
		}
	}
}

// checkDead asks all calls of a log that has answered ErrDown.
func checkDead(t *testing.T, w *wal.Wal) {
	t.Helper()
	count := w.Count()
	for range 2 {
		for _, c := range []call{toAppend(""), toAppend("dead"), toSync(), toCheckpoint(""), toCheckpoint("dead"), toAppend(strings.Repeat("a", maxRecord))} {
			if e := c.do(w); e != api.ErrDown {
				t.Fatalf("%v behind an ErrDown: %d", c, e)
			}
		}
	}
	checkCount(t, w, count)
}

// disk is what stands on a plate: the bytes of its files.
type disk map[string]string

func (d disk) used() int {
	n := 0
	for _, f := range d {
		n += len(f)
	}
	return n
}

// diskOf answers what stands on a plate that has power.
func diskOf(t *testing.T, p *plate.Plate) disk {
	t.Helper()
	out := disk{}
	for _, name := range p.Names() {
		b, e := p.Read(name)
		if e != api.OK {
			t.Fatalf("Read(%q): %d", name, e)
		}
		out[name] = string(b)
	}
	return out
}

// isOf tells whether a file is of the log of that name.
func isOf(file, name string) bool {
	d, ok := strings.CutPrefix(file, name+"-")
	return ok && d != "" && strings.Trim(d, "0123456789") == ""
}

// truth is what a log's calls have come to, by the chapter's words.
type truth struct {
	content
	lasted int
	next   *string // base of the checkpoint in which the power went out
}

// reckon takes a call and what it has answered.
func (m *truth) reckon(c call, e api.Errno) {
	switch {
	case e == api.ErrDown && c.kind == aCheckpoint:
		m.next = &c.data
	case e != api.OK:
	case c.kind == anAppend:
		m.records = append(m.records[:len(m.records):len(m.records)], c.data)
	case c.kind == aSync:
		m.lasted = len(m.records)
	case c.kind == aCheckpoint:
		*m = truth{content: of(c.data)}
	}
}

// may tells whether Open may tell that behind a crash.
func (m *truth) may(got content) bool {
	if m.next != nil && got.equals(of(*m.next)) {
		return true
	}
	n := len(got.records)
	return got.base == m.base && n >= m.lasted && n <= len(m.records) && slices.Equal(got.records, m.records[:n])
}

// opened takes what Open has told, which lasts.
func (m *truth) opened(got content) { *m = truth{content: got, lasted: len(got.records)} }

// keeping answers what a crash keeps of a plate's files.
type keeping func(p *plate.Plate) []int

func keepNone(*plate.Plate) []int  { return nil }
func keepAll(p *plate.Plate) []int { return slices.Repeat([]int{greatest}, len(p.Names())) }
func keepLast(p *plate.Plate) []int {
	out := make([]int, len(p.Names()))
	if len(out) > 0 {
		out[len(out)-1] = greatest
	}
	return out
}
func keepBut(n int) keeping { // of each file so many bytes
	return func(p *plate.Plate) []int { return slices.Repeat([]int{n}, len(p.Names())) }
}
func keepChance(chance *rand.Rand) keeping {
	return func(p *plate.Plate) []int {
		var out []int
		for range p.Names() {
			switch chance.Intn(4) {
			case 0:
				out = append(out, 0)
			case 1:
				out = append(out, greatest)
			default:
				out = append(out, chance.Intn(40))
			}
		}
		return out
	}
}

// run is a log that goes through calls, and through crashes.
type run struct {
	t      *testing.T
	p      *plate.Plate
	w      *wal.Wal
	m      truth
	name   string
	most   int
	keep   keeping
	within int // so often the power goes out in each Open behind a crash, by each of its changes
	room   int // of the plate, if it may be full
}

// do does calls, till the power goes out. It tells whether it did.
func (r *run) do(calls ...call) bool {
	r.t.Helper()
	for _, c := range calls {
		if c.kind == anOpen {
			if r.p.Down() || !r.tryOpen() {
				return true
			}
			continue
		}
		count := len(r.m.records)
		var was disk
		if r.room > 0 && !r.p.Down() {
			was = diskOf(r.t, r.p)
		}
		e := c.do(r.w)
		r.m.reckon(c, e)
		switch e {
		case api.OK:
			checkCount(r.t, r.w, len(r.m.records))
		case api.ErrFull:
			checkCount(r.t, r.w, count)
			if c.kind == aSync || r.room-r.p.Used() >= len(c.data)+more || !maps.Equal(diskOf(r.t, r.p), was) {
				r.t.Fatalf("%v: ErrFull, with %d bytes of %d in use: %v; ahead of it: %v", c, r.p.Used(), r.room, diskOf(r.t, r.p), was)
			}
		case api.ErrDown:
			checkCount(r.t, r.w, count)
			checkDead(r.t, r.w)
			return true
		default:
			r.t.Fatalf("%v: %d", c, e)
		}
	}
	return false
}

// tryOpen opens the log, if the power doesn't go out. It tells whether it did.
func (r *run) tryOpen() bool {
	r.t.Helper()
	w, base, records, e := wal.Open(r.p, r.name, r.most)
	if e == api.ErrDown && r.p.Down() {
		if w != nil || base != nil || records != nil {
			r.t.Fatalf("beside an error: %v, %q, %q", w != nil, base, records)
		}
		return false
	}
	if e != api.OK || w == nil {
		r.t.Fatalf("Open: %v, %d", w != nil, e)
	}
	got := told(base, records)
	if !r.m.may(got) {
		r.t.Fatalf("told: %v\nhad: %v, of which %d lasted; checkpoint: %v", got, r.m.content, r.m.lasted, r.m.next != nil)
	}
	r.w = w
	r.m.opened(got)
	checkCount(r.t, w, len(got.records))
	return true
}

// crash crashes the plate, and opens the log behind that.
func (r *run) crash() {
	r.t.Helper()
	r.p.Crash(r.keep(r.p)...)
	for n := range r.within {
		r.p.Arm(n)
		if r.tryOpen() {
			break
		}
		r.p.Crash(r.keep(r.p)...)
	}
	r.p.Arm(-1)
	if !r.tryOpen() {
		r.t.Fatal("no log behind a crash")
	}
	was := r.m.content
	r.p.Crash(r.keep(r.p)...)
	r.w = checkOpen(r.t, r.p, r.name, r.most, was)
}

// TestExample is of P12.1 to P12.3: the chapter's example.
func TestExample(t *testing.T) {
	for _, most := range []int{1, 20, maxPart} {
		p := on(t, 1<<20)
		w := checkOpen(t, p, "log", most, of(""))
		checkOK(t, w, toAppend("a"), toSync(), toAppend("b"))
		p.Crash()
		w = checkOpen(t, p, "log", most, of("", "a"))
		checkOK(t, w, toCheckpoint("c"), toAppend("d"))
		p.Crash(keepAll(p)...)
		checkOpen(t, p, "log", most, of("c", "d"))
	}
}

// goodNames are such as a log may have.
func goodNames() []string {
	return []string{"a", "\x00", "-", "1", "0000000001", "a-", "a-1", "\xff\xfe", "\xc3", strings.Repeat("a", 31), strings.Repeat("a", 32), strings.Repeat("\xff", 32), strings.Repeat("-", 32), strings.Repeat("9", 32), strings.Repeat("é", 16)}
}

// badNames are such as no log has.
func badNames() []string {
	return []string{"", strings.Repeat("a", 33), strings.Repeat("\x00", 33), strings.Repeat("é", 32), strings.Repeat("a", 62), strings.Repeat("a", 64), strings.Repeat("a", 65), strings.Repeat("a", 1<<20)}
}

// goodMosts are such as a log may have, badMosts such as none has.
func goodMosts() []int { return []int{1, 2, 10, 4096, maxPart - 1, maxPart} }
func badMosts() []int {
	return []int{least, least + 1, -1 << 32, -maxPart, -2, -1, 0, maxPart + 1, maxPart + 2, 1 << 21, 1 << 32, 1<<32 + 1, greatest - 1, greatest}
}

// outOf answers a plate of no room whose power is out.
func outOf(t *testing.T) *plate.Plate {
	t.Helper()
	p := on(t, 0)
	p.Arm(0)
	p.Sync("x")
	if !p.Down() {
		t.Fatal("there is power")
	}
	return p
}

// TestOpen is of P12.1: names and mosts at their bounds and beyond.
func TestOpen(t *testing.T) {
	for _, name := range goodNames() {
		for _, most := range goodMosts() {
			p := on(t, 1000)
			w := checkOpen(t, p, name, most, of(""))
			checkOK(t, w, toAppend("a"), toSync(), toAppend("b"), toCheckpoint("c"), toAppend("d"), toAppend("e"), toSync())
			p.Crash()
			for file := range diskOf(t, p) {
				if !isOf(file, name) {
					t.Errorf("the log %q has the file %q", name, file)
				}
			}
			checkOpen(t, p, name, most, of("c", "d", "e"))
		}
		for _, most := range badMosts() {
			checkNoOpen(t, on(t, 1000), name, most, api.ErrArg)
		}
	}
	for _, name := range badNames() {
		for _, most := range slices.Concat(goodMosts(), badMosts()) {
			checkNoOpen(t, on(t, 1000), name, most, api.ErrArg)
		}
	}
}

// TestOpenFirstError is of P12.1: ErrNil ahead of ErrArg ahead of ErrDown ahead of ErrFull; nothing has changed behind any.
func TestOpenFirstError(t *testing.T) {
	full := func() *plate.Plate {
		p := on(t, 5)
		p.Append("x", []byte("12345"))
		return p
	}
	armed := full()
	armed.Arm(0)
	plates := []*plate.Plate{full(), armed, outOf(t), on(t, 0), on(t, 1000)}
	for _, name := range append(goodNames(), badNames()...) {
		for _, most := range slices.Concat(goodMosts(), badMosts()) {
			checkNoOpen(t, nil, name, most, api.ErrNil)
			if slices.Contains(goodNames(), name) && slices.Contains(goodMosts(), most) {
				continue
			}
			for _, p := range plates {
				down, files := p.Down(), len(p.Names())
				checkNoOpen(t, p, name, most, api.ErrArg)
				if p.Down() != down || len(p.Names()) != files {
					t.Errorf("Open(%d bytes, %d) has changed the plate", len(name), most)
				}
			}
		}
	}
	for _, name := range goodNames() {
		checkNoOpen(t, outOf(t), name, 10, api.ErrDown)
		p := full()
		p.Arm(0)
		checkNoOpen(t, p, name, 10, api.ErrDown)
		checkNoOpen(t, p, name, 10, api.ErrDown)
		p.Crash()
		checkNoOpen(t, full(), name, 10, api.ErrFull)
	}
	p := on(t, 1000)
	checkOK(t, checkOpen(t, p, "a", 1, of("")), toAppend("1"), toSync(), toAppend("2"))
	p.Arm(0)
	p.Sync("x")
	checkNoOpen(t, p, "a", 1, api.ErrDown)
	checkNoOpen(t, p, "b", 1, api.ErrDown)
}

// TestOpenRoom is of P12.1 and P12.4: each room up to that in which there has to be enough for a new log; and one that is there needs none.
func TestOpenRoom(t *testing.T) {
	for _, name := range []string{"a", strings.Repeat("\xff", 32)} {
		opened := 0
		for room := range more + 20 {
			for _, other := range []string{"", "other"} {
				p := on(t, room+len(other))
				p.Append("x", []byte(other))
				p.Sync("x")
				was := diskOf(t, p)
				w, base, records, e := wal.Open(p, name, 10)
				switch {
				case e == api.ErrFull && room < more && opened == 0:
					if w != nil || base != nil || records != nil || !maps.Equal(diskOf(t, p), was) {
						t.Errorf("room %d: %v, %q, %q, %v", room, w != nil, base, records, diskOf(t, p))
					}
					continue
				case e != api.OK || w == nil || len(base)+len(records) > 0:
					t.Errorf("room %d: %d", room, e)
					continue
				}
				opened++
				p.Append("y", make([]byte, room+len(other)-p.Used()))
				p.Sync("y")
				for range 3 {
					checkOpen(t, p, name, 10, of(""))
					p.Crash()
				}
			}
		}
		checkNoOpen(t, on(t, 0), name, 10, api.ErrFull)
	}
}

// fill leaves a plate no room, by a file of that name.
func fill(t *testing.T, p *plate.Plate, room int, name string) {
	t.Helper()
	checkIs(t, p.Append(name, make([]byte, room-p.Used())), api.OK)
	checkIs(t, p.Sync(name), api.OK)
	checkIs(t, p.Append(name, []byte("x")), api.ErrFull)
}

// TestOpenFull is of P12.4: Open of a log that is there, on a plate without room, whatever a crash has left of it.
func TestOpenFull(t *testing.T) {
	for _, most := range []int{1, 30, maxPart} {
		script := []call{toAppend("a"), toAppend("bcd"), toSync(), toAppend("e"), toAppend(""), toCheckpoint("fg"), toAppend("h"), toAppend("i"), toCheckpoint(""), toAppend("j")}
		for n := range 1000 {
			r := &run{t: t, p: on(t, 1000), name: "a", most: most}
			r.tryOpen()
			r.p.Arm(n)
			out := r.do(script...)
			for _, keep := range []keeping{keepNone, keepAll, keepLast, keepBut(1), keepBut(9), keepBut(12)} {
				again := *r
				again.p, again.keep, again.within = r.p.Copy(), keep, 3
				again.p.Crash(keep(again.p)...)
				fill(t, again.p, 1000, "x")
				again.crash()
				fill(t, again.p, 1000, "x")
				again.crash()
			}
			if !out {
				break
			}
		}
	}
}

// TestOpenDown is of P12.1 and P12.3: the power goes out by each change that Open makes, of a new log too, again and again; on just the room that a new log needs, too.
func TestOpenDown(t *testing.T) {
	for _, room := range []int{more, 1000} {
		for kept := range 20 {
			r := &run{t: t, p: on(t, room), name: "a", most: 10, keep: keepBut(kept), within: 20}
			for range 5 {
				for n := range 20 {
					r.p.Arm(n)
					if r.tryOpen() {
						break
					}
					r.p.Crash(r.keep(r.p)...)
				}
			}
			r.crash()
			if room == more {
				continue
			}
			if r.do(toAppend("abc"), toAppend("d"), toSync(), toAppend("e"), toAppend("f")) {
				t.Fatal("no power")
			}
			r.crash()
		}
	}
}

// like are names of files that aren't the log a's, though much like them.
func like() []string {
	return []string{
		"a", "a-", "b-1", "aa-1", "A-1", "-1", "-", "1", "xa-1", "xa-0000000001", "a1", "a0000000001", "a -0000000001", "a_0000000001",
		"a-x", "a-1x", "a-x1", "a-1-", "a-1-1", "a-0000000001-1", "a-0000000001-", "a--1", "a--0000000001", "a-+1", "a- 1", "a-1 ", "a-1.0", "a-1_0",
		"a-+000000001", "a- 000000001", "a-00000000 1", "a-000000001 ", "a-00000000.1", "a-00000_0001", "a-0x00000001", "a-000000001x", "a-000000000a", "a-000000000/", "a-000000000:", "a-000000001\x00",
		"a-0000000001x", "a-0000000000x", "a-00000000\xd9\xa1", "a-\xd9\xa1", "a-\xff", "a\x00-0000000001", "a-1\n",
	}
}

// logBytes are bytes such as the log's own files have.
func logBytes(t *testing.T) []string {
	t.Helper()
	var out []string
	for _, most := range []int{1, 40, maxPart} {
		p := on(t, 10000)
		w := checkOpen(t, p, "a", most, of(""))
		for range 4 {
			for _, b := range diskOf(t, p) {
				out = append(out, b, b[:len(b)-1], b[1:], b+b)
			}
			checkOK(t, w, toAppend("one"), toAppend(""), toAppend("three"))
			for _, b := range diskOf(t, p) {
				out = append(out, b, b[:len(b)/2])
			}
			checkOK(t, w, toCheckpoint("base"), toAppend("four"))
		}
	}
	slices.Sort(out)
	return slices.Compact(out)
}

// TestOthers is of P12.1: files of other names stay as they are, and aren't looked at, through all calls and crashes.
func TestOthers(t *testing.T) {
	seen := logBytes(t)
	for _, most := range []int{1, 50, maxPart} {
		for kept := range 15 {
			r := &run{t: t, p: on(t, 1<<20), name: "a", most: most, keep: keepBut(kept)}
			want := disk{}
			for i, name := range like() {
				b := seen[(i+kept)%len(seen)] + "x"
				checkIs(t, r.p.Append(name, []byte(b)), api.OK)
				checkIs(t, r.p.Sync(name), api.OK)
				want[name] = b
			}
			check := func() {
				t.Helper()
				got := diskOf(t, r.p)
				maps.DeleteFunc(got, func(name, _ string) bool { return isOf(name, "a") })
				if !maps.Equal(got, want) {
					t.Fatalf("others: %v; want %v", got, want)
				}
			}
			r.tryOpen()
			check()
			for n := range 12 {
				r.p.Arm(3 * n)
				r.do(toAppend("a"), toAppend("b"), toSync(), toAppend("c"), toCheckpoint("d"), call{kind: anOpen}, toAppend("e"), toAppend(""), toCheckpoint(""), toAppend("f"))
				r.crash()
				check()
			}
		}
	}
}

// TestOthersNotSynced is of P12.1: what stands in files of other names isn't synced by a log.
func TestOthersNotSynced(t *testing.T) {
	p := on(t, 1<<20)
	for _, name := range like() {
		checkIs(t, p.Append(name, []byte("abc")), api.OK)
	}
	w := checkOpen(t, p, "a", 1, of(""))
	checkOK(t, w, toAppend("a"), toSync(), toAppend("b"), toCheckpoint("c"), toAppend("d"), toSync())
	checkOpen(t, p, "a", 1, of("c", "d"))
	for _, name := range like() {
		if got := p.Synced(name); got != 0 {
			t.Errorf("%q: %d synced", name, got)
		}
	}
	p.Crash()
	if len(p.Names()) == 0 || slices.ContainsFunc(p.Names(), func(name string) bool { return !isOf(name, "a") }) {
		t.Errorf("%q", p.Names())
	}
	checkOpen(t, p, "a", 1, of("c", "d"))
}

// kin are names of logs of which some are the beginnings of others, or of others' files.
func kin() []string {
	return []string{"a", "a-", "a-1", "a-1-", "a-1-1", "a--", "a-0000000001", "a-0000000001-", "aa", "-", "--", "-1", "1", "1-1", "a-2"}
}

// TestTwoLogs is of P12.1: logs of different names on one plate, each of which has its own.
func TestTwoLogs(t *testing.T) {
	for _, most := range []int{1, 30, maxPart} {
		p := on(t, 1<<20)
		runs := map[string]*run{}
		for _, name := range kin() {
			r := &run{t: t, p: p, name: name, most: most}
			r.tryOpen()
			runs[name] = r
		}
		chance := rand.New(rand.NewSource(int64(most)))
		for i := range 400 {
			r := runs[kin()[chance.Intn(len(kin()))]]
			data := fmt.Sprint(r.name, " ", i)
			r.do([]call{toAppend(data), toAppend(data), toAppend(data), toSync(), toCheckpoint(data), {kind: anOpen}}[chance.Intn(6)])
			if i%25 == 24 {
				p.Crash(keepChance(chance)(p)...)
				for _, name := range kin() {
					runs[name].tryOpen()
				}
			}
		}
		for _, name := range kin() {
			checkOpen(t, p, name, most, runs[name].m.content)
		}
	}
}

// TestTwoLogsDown is of P12.2: when the power goes out by one log's call, the other ones answer ErrDown too, and go on so.
func TestTwoLogsDown(t *testing.T) {
	p := on(t, 1000)
	a, b := checkOpen(t, p, "a", 10, of("")), checkOpen(t, p, "a-1", 10, of(""))
	checkOK(t, a, toAppend("a"), toSync())
	checkOK(t, b, toAppend("b"), toSync())
	p.Arm(0)
	checkIs(t, a.Append([]byte("c")), api.ErrDown)
	checkIs(t, b.Append([]byte("c")), api.ErrDown)
	p.Crash()
	checkDead(t, a)
	checkDead(t, b)
	checkOpen(t, p, "a", 10, of("", "a"))
	checkOpen(t, p, "a-1", 10, of("", "b"))
}

// TestLong is of P12.2: records and bases of no bytes, of as many as there may be, and of more.
func TestLong(t *testing.T) {
	for _, most := range []int{1, 70000, maxPart} {
		p := on(t, 1<<24)
		w := checkOpen(t, p, "a", most, of(""))
		var want []string
		for i, n := range []int{0, 1, 2, 127, 128, 16383, 16384, maxRecord - 1, maxRecord, 0, maxRecord} {
			data := strings.Repeat(string([]byte{byte(i)}), n)
			checkOK(t, w, toAppend(data))
			want = append(want, data)
			checkCount(t, w, len(want))
			was := diskOf(t, p)
			for _, long := range []int{maxRecord + 1, maxRecord + 2, 65536, 65537, 1 << 18} {
				checkIs(t, w.Append(make([]byte, long)), api.ErrLong)
				checkIs(t, w.Checkpoint(make([]byte, long)), api.ErrLong)
			}
			checkCount(t, w, len(want))
			if !maps.Equal(diskOf(t, p), was) {
				t.Error("behind an ErrLong the plate has changed")
			}
		}
		checkIs(t, w.Append(nil), api.OK)
		want = append(want, "")
		checkOK(t, w, toSync())
		p.Crash()
		w = checkOpen(t, p, "a", most, of("", want...))
		for _, base := range []string{strings.Repeat("b", maxRecord), "", strings.Repeat("c", maxRecord-1), "d"} {
			checkOK(t, w, toCheckpoint(base))
			checkCount(t, w, 0)
			p.Crash()
			w = checkOpen(t, p, "a", most, of(base))
			checkOK(t, w, toAppend(base), toSync())
			p.Crash()
			w = checkOpen(t, p, "a", most, of(base, base))
		}
		checkIs(t, w.Checkpoint(nil), api.OK)
		checkOpen(t, p, "a", most, of(""))
	}
}

// TestFirstError is of P12.2: ErrNil ahead of ErrLong ahead of ErrDown ahead of ErrFull.
func TestFirstError(t *testing.T) {
	long := make([]byte, maxRecord+1)
	var none *wal.Wal
	checkIs(t, none.Append(long), api.ErrNil)
	checkIs(t, none.Checkpoint(long), api.ErrNil)
	for _, room := range []int{more, 1000} {
		for _, data := range []string{"", "a", strings.Repeat("a", maxRecord)} {
			for _, c := range []call{toAppend(data), toSync(), toCheckpoint(data)} {
				p := on(t, room)
				w := checkOpen(t, p, "a", 1, of(""))
				fill(t, p, room, "x")
				checkIs(t, w.Append(long), api.ErrLong)
				checkIs(t, w.Checkpoint(long), api.ErrLong)
				p.Arm(0)
				checkIs(t, w.Append(long), api.ErrLong)
				checkIs(t, w.Checkpoint(long), api.ErrLong)
				if p.Down() {
					t.Error("the power has gone out by a call that does nothing")
				}
				checkIs(t, c.do(w), api.ErrDown)
				if !p.Down() {
					t.Error("there is power")
				}
				checkDead(t, w)
				p.Crash()
				checkDead(t, w)
				checkIs(t, w.Append(long), api.ErrLong)
				checkIs(t, w.Checkpoint(long), api.ErrLong)
			}
		}
	}
}

// TestDown is of P12.2: each call with the power out ahead of it; and all calls behind that, for good.
func TestDown(t *testing.T) {
	for _, most := range []int{1, 15, maxPart} {
		for _, c := range []call{toAppend(""), toAppend("a"), toSync(), toCheckpoint(""), toCheckpoint("a")} {
			for _, begin := range [][]call{nil, {toAppend("b")}, {toAppend("b"), toSync()}, {toCheckpoint("b")}, {toCheckpoint("b"), toAppend("d"), toAppend("e")}} {
				p := on(t, 1000)
				w := checkOpen(t, p, "a", most, of(""))
				checkOK(t, w, begin...)
				count := w.Count()
				p.Arm(0)
				checkIs(t, p.Sync("x"), api.ErrDown)
				checkIs(t, c.do(w), api.ErrDown)
				checkCount(t, w, count)
				checkDead(t, w)
				p.Crash(keepAll(p)...)
				checkDead(t, w)
				was := diskOf(t, p)
				_, got := open(t, p, "a", most)
				checkDead(t, w)
				checkOpen(t, p, "a", most, got)
				if len(got.records) != count || !maps.Equal(diskOf(t, p), was) {
					t.Errorf("%v behind %v: %v", c, begin, got)
				}
			}
		}
	}
}

// TestAlive is of P12.2: behind the other errors a log goes on.
func TestAlive(t *testing.T) {
	p := on(t, 1000)
	w := checkOpen(t, p, "a", 1, of(""))
	fill(t, p, 1000, "x")
	for range 3 {
		checkIs(t, w.Append([]byte("a")), api.ErrFull)
		checkIs(t, w.Checkpoint([]byte("a")), api.ErrFull)
		checkIs(t, w.Append(make([]byte, maxRecord+1)), api.ErrLong)
		checkIs(t, w.Checkpoint(make([]byte, maxRecord+1)), api.ErrLong)
		checkIs(t, w.Sync(), api.OK)
		checkCount(t, w, 0)
	}
	checkIs(t, p.Cut("x", 0), api.OK)
	checkOK(t, w, toAppend("a"), toCheckpoint("b"), toAppend("c"), toSync())
	checkOpen(t, p, "a", 1, of("b", "c"))
}

// TestCheckpoint is of P12.2 and P12.4: without records ahead, with one, with many; one behind the other; what is in use behind it.
func TestCheckpoint(t *testing.T) {
	for _, most := range []int{1, 100, maxPart} {
		p := on(t, 1<<22)
		w := checkOpen(t, p, "a", most, of(""))
		for i, records := range []int{0, 0, 1, 2, 0, 3, 1000, 0} {
			for _, base := range []string{"", "b", fmt.Sprint("base ", i), strings.Repeat("b", maxRecord), strings.Repeat("c", maxRecord), ""} {
				for n := range records {
					checkOK(t, w, toAppend(fmt.Sprint("record ", n)))
					checkCount(t, w, n+1)
				}
				checkOK(t, w, toCheckpoint(base))
				checkCount(t, w, 0)
				if used := p.Used(); used > len(base)+more {
					t.Errorf("behind a checkpoint of %d bytes, %d are in use", len(base), used)
				}
				p.Crash()
				w = checkOpen(t, p, "a", most, of(base))
				if used := p.Used(); used > len(base)+more {
					t.Errorf("behind a crash, with a base of %d bytes, %d are in use", len(base), used)
				}
			}
		}
	}
}

// TestFiles is of P12.1: records of many times most bytes lie in more than one file; those of few bytes needn't; another most may be told later on.
func TestFiles(t *testing.T) {
	const records = 200
	for _, most := range []int{1, 10, 100, 1000, 10000} {
		for _, length := range []int{0, 1, 10, 100, 1000} {
			p := on(t, 1<<20)
			w := checkOpen(t, p, "a", most, of(""))
			var want []string
			for i := range records {
				want = append(want, strings.Repeat(string([]byte{byte(i)}), length))
				checkOK(t, w, toAppend(want[i]))
			}
			files := len(p.Names())
			if length*records >= 4*most && files < 2 {
				t.Errorf("most %d, %d records of %d bytes: %d files", most, records, length, files)
			}
			if bound := (length+more)*(records+1)/most + 1; files > min(bound, records+1) {
				t.Errorf("most %d, %d records of %d bytes: %d files", most, records, length, files)
			}
			checkOK(t, w, toSync())
			p.Crash()
			for _, other := range []int{1, maxPart, most} {
				w = checkOpen(t, p, "a", other, of("", want...))
				checkOK(t, w, toAppend("x"), toAppend("y"), toSync())
				want = append(want, "x", "y")
				p.Crash()
			}
			checkOpen(t, p, "a", most, of("", want...))
		}
	}
}

// TestManyFiles is of P12.1 and P12.3: more files than one digit tells, or two, or three, are in order.
func TestManyFiles(t *testing.T) {
	p := on(t, 1<<20)
	w := checkOpen(t, p, "a", 1, of(""))
	var want []string
	for i := range 1200 {
		want = append(want, fmt.Sprint(i))
		checkOK(t, w, toAppend(want[i]))
		if i%97 == 0 || i < 15 {
			checkOK(t, w, toSync())
			p.Crash()
			w = checkOpen(t, p, "a", 1, of("", want...))
		}
	}
	checkOK(t, w, toSync())
	p.Crash()
	w = checkOpen(t, p, "a", 1, of("", want...))
	for i := range 1200 {
		checkOK(t, w, toCheckpoint(fmt.Sprint(i)))
		p.Crash()
		w = checkOpen(t, p, "a", 1, of(fmt.Sprint(i)))
	}
}

// TestFull is of P12.2 and P12.4: in each room, whether a call says that there is none; what it leaves as it was; that the log goes on, and crashes behind it.
func TestFull(t *testing.T) {
	var scripts [][]call
	for _, long := range []int{0, 1, 30, 150} {
		data := strings.Repeat("x", long)
		scripts = append(scripts, []call{
			toAppend(data), toAppend("1"), toSync(), toAppend(data), toCheckpoint("2"), toAppend(data), toSync(), toAppend("3"), toAppend(data), toAppend("4"), toCheckpoint(data), toAppend("5"), toSync(), toCheckpoint(""), toAppend(data),
		})
	}
	fulls := 0
	for _, script := range scripts {
		for _, most := range []int{1, 60, maxPart} {
			for room := more; room < 700; room += 1 + room/100 {
				r := &run{t: t, p: on(t, room), name: "a", most: most, keep: keepNone, room: room, within: 2}
				r.tryOpen()
				for range 2 {
					for _, c := range script {
						records, base := len(r.m.records), r.m.base
						r.do(c)
						if c.kind == anAppend && len(r.m.records) == records || c.kind == aCheckpoint && c.data != base && r.m.base == base {
							fulls++
						}
						if c.kind == aCheckpoint && r.m.base == c.data && len(r.m.records) == 0 && r.p.Used() > len(c.data)+more {
							t.Fatalf("%v: %d in use", c, r.p.Used())
						}
					}
					r.crash()
				}
			}
		}
	}
	if fulls < 1000 {
		t.Errorf("full so often: %d", fulls)
	}
}

// TestFullLong is of P12.4: with just so much room as there has to be enough, for the longest record and the longest base.
func TestFullLong(t *testing.T) {
	for _, most := range []int{1, maxPart} {
		for _, c := range []call{toAppend(""), toAppend("a"), toAppend(strings.Repeat("a", 127)), toAppend(strings.Repeat("a", 128)), toAppend(strings.Repeat("a", 16383)), toAppend(strings.Repeat("a", 16384)), toAppend(strings.Repeat("a", maxRecord))} {
			for _, kind := range []string{anAppend, aCheckpoint} {
				c.kind = kind
				for begin := range 300 {
					if begin > 10 && begin < 290 {
						continue
					}
					room := 1 << 18
					p := on(t, room)
					w := checkOpen(t, p, "a", most, of(""))
					for range begin {
						checkOK(t, w, toAppend("b"))
					}
					checkIs(t, p.Append("x", make([]byte, room-p.Used()-len(c.data)-more)), api.OK)
					checkOK(t, w, c, toSync())
					p.Crash()
					_, got := open(t, p, "a", most)
					if kind == anAppend && (len(got.records) != begin+1 || got.records[begin] != c.data) || kind == aCheckpoint && !got.equals(of(c.data)) {
						t.Errorf("%v: %v", c, got)
					}
				}
			}
		}
	}
}

// beginnings answers what a crash may keep of a plate's files: of each one that isn't all synced none, all and some of its bytes, together with each of the others' ones.
func beginnings(t *testing.T, p *plate.Plate) [][]int {
	t.Helper()
	whole := p.Copy()
	whole.Crash(keepAll(whole)...)
	d := diskOf(t, whole)
	out := [][]int{nil}
	for _, name := range p.Names() {
		rest := len(d[name]) - p.Synced(name)
		kept := []int{0, 1, rest / 2, rest - 1, rest}
		slices.Sort(kept)
		kept = slices.DeleteFunc(slices.Compact(kept), func(n int) bool { return n < 0 || n > rest })
		var next [][]int
		for _, keeps := range out {
			for _, n := range kept {
				next = append(next, append(slices.Clone(keeps), n))
			}
		}
		out = next
	}
	return out
}

// scriptsOf answers all scripts of so many calls, each with bytes of its own.
func scriptsOf(length int) [][]call {
	out := [][]call{nil}
	for i := range length {
		data := string(rune('a' + i))
		var next [][]call
		for _, script := range out {
			for _, c := range []call{toAppend(data), toAppend(""), toSync(), toCheckpoint(data), {kind: anOpen}} {
				next = append(next, append(slices.Clone(script), c))
			}
		}
		out = next
	}
	return out
}

// TestAllShort is of P12.3: all scripts of four calls, the power going out at each change of each, behind each of which all kinds of crashes come.
func TestAllShort(t *testing.T) {
	for _, most := range []int{1, 24, maxPart} {
		for _, script := range scriptsOf(4) {
			for n := range 100 {
				r := &run{t: t, p: on(t, 1000), name: "a", most: most}
				r.p.Arm(n)
				out := !r.tryOpen() || r.do(script...)
				for _, keeps := range beginnings(t, r.p) {
					again := *r
					again.p, again.keep = r.p.Copy(), func(*plate.Plate) []int { return keeps }
					again.crash()
				}
				if !out {
					break
				}
			}
		}
	}
}

// TestWithin is of P12.3: the power goes out in a call, and behind the crash by each change of Open, again and again.
func TestWithin(t *testing.T) {
	for _, most := range []int{1, 24, 60, maxPart} {
		script := []call{toAppend("a"), toAppend("bc"), toSync(), toAppend(""), toAppend("d"), toCheckpoint("e"), toAppend("f"), toAppend("g"), toAppend("h"), toSync(), toAppend("i"), toCheckpoint(""), toAppend("j"), toCheckpoint("k")}
		for n := range 100 {
			r := &run{t: t, p: on(t, 1000), name: "a", most: most, within: 100}
			r.tryOpen()
			r.p.Arm(n)
			out := r.do(script...)
			for _, keeps := range beginnings(t, r.p) {
				again := *r
				again.p, again.keep = r.p.Copy(), func(*plate.Plate) []int { return keeps }
				again.crash()
				again.do(toAppend("l"), toAppend("m"), toSync(), toAppend("n"))
				again.crash()
				again.do(toCheckpoint("o"), toAppend("p"))
				again.crash()
			}
			if !out {
				break
			}
		}
	}
}

// TestAsItWas is of P12.3: behind a crash in a checkpoint that keeps nothing of it, all is as it was; behind one that keeps all of it, the new base may be there, and all that was ahead of it is gone for good.
func TestAsItWas(t *testing.T) {
	for _, most := range []int{1, maxPart} {
		begin := func() (*plate.Plate, *wal.Wal) {
			p := on(t, 1000)
			w := checkOpen(t, p, "a", most, of(""))
			checkOK(t, w, toCheckpoint("base"), toAppend("a"), toAppend("b"), toSync())
			return p, w
		}
		p, w := begin()
		p.Arm(0)
		checkIs(t, w.Checkpoint([]byte("new")), api.ErrDown)
		p.Crash(keepAll(p)...)
		checkOpen(t, p, "a", most, of("base", "a", "b"))
		for n := 1; ; n++ {
			p, w = begin()
			p.Arm(n)
			if w.Checkpoint([]byte("new")) == api.OK {
				break
			}
			p.Crash(keepAll(p)...)
			for range 2 {
				w, got := open(t, p, "a", most)
				if !got.equals(of("new")) && !got.equals(of("base", "a", "b")) {
					t.Fatalf("by change %d: %v", n, got)
				}
				checkOK(t, w, toAppend("c"), toSync())
				p.Crash()
				w = checkOpen(t, p, "a", most, of(got.base, append(got.records, "c")...))
				checkOK(t, w, toCheckpoint("last"))
				p.Crash()
				w = checkOpen(t, p, "a", most, of("last"))
				checkOK(t, w, toCheckpoint("base"), toAppend("a"), toAppend("b"), toSync())
			}
		}
	}
}

// TestRoomBack is of P12.4: the room of what a crash has left over is given back when the log is opened: of files ahead of a base, of one that was begun, of a record's beginning.
func TestRoomBack(t *testing.T) {
	for _, most := range []int{1, 30, maxPart} {
		done := false
		for n := 0; !done; n++ {
			for kept := range 15 {
				p := on(t, 1000)
				w := checkOpen(t, p, "a", most, of(""))
				for range 8 {
					checkOK(t, w, toAppend("abcdefghi"))
				}
				p.Arm(n)
				e := w.Checkpoint([]byte("base"))
				p.Crash(keepBut(kept)(p)...)
				_, got := open(t, p, "a", most)
				bound := len(got.base) + more
				for _, r := range got.records {
					bound += len(r) + more
				}
				if p.Used() > bound {
					t.Errorf("%v: %d bytes are in use: %q", got, p.Used(), p.Names())
				}
				q := on(t, 1000)
				w = checkOpen(t, q, "a", most, of(""))
				checkOK(t, w, toCheckpoint(got.base))
				for _, r := range got.records {
					checkOK(t, w, toAppend(r))
				}
				if p.Used() != q.Used() {
					t.Errorf("%v: %d bytes are in use, of a log that never crashed %d", got, p.Used(), q.Used())
				}
				done = e == api.OK
			}
		}
	}
}

// chancyData answers bytes of a record or a base: few, many, or such as a log's own files have.
func chancyData(chance *rand.Rand, i int, seen []string) string {
	switch chance.Intn(8) {
	case 0:
		return ""
	case 1:
		return seen[chance.Intn(len(seen))]
	case 2:
		return strings.Repeat(fmt.Sprint(i), chance.Intn(60))
	}
	return fmt.Sprint(i)
}

// chancyScript answers so many calls.
func chancyScript(chance *rand.Rand, length int, seen []string) []call {
	var out []call
	for i := range length {
		data := chancyData(chance, i, seen)
		switch n := chance.Intn(20); {
		case n < 11:
			out = append(out, toAppend(data))
		case n < 16:
			out = append(out, toSync())
		case n < 19:
			out = append(out, toCheckpoint(data))
		default:
			out = append(out, call{kind: anOpen})
		}
	}
	return out
}

// TestByChance is of P12.3: a crash at each single change of scripts by chance, with keeps of none, all and chance beginnings; the rest of the script behind it, with crashes by chance.
func TestByChance(t *testing.T) {
	seen := logBytes(t)
	for seed := range int64(12) {
		chance := rand.New(rand.NewSource(seed))
		script := chancyScript(chance, 60, seen)
		most := []int{1, 20, 100, 500, 4096, maxPart}[seed%6]
		for n := 0; ; n++ {
			last := false
			for _, keep := range []keeping{keepNone, keepAll, keepLast, keepChance(chance), keepChance(chance)} {
				r := &run{t: t, p: on(t, 1<<20), name: "a", most: most, keep: keep, within: chance.Intn(4)}
				r.p.Arm(n)
				rest := r.upTo(script)
				last = len(rest) == 0
				r.crash()
				for len(rest) > 0 {
					r.p.Arm(chance.Intn(60))
					rest = r.left(rest)
					r.crash()
				}
			}
			if last {
				break
			}
		}
	}
}

// upTo opens the log and does calls, till the power goes out. It answers the calls that are left behind that.
func (r *run) upTo(script []call) []call {
	r.t.Helper()
	if !r.tryOpen() {
		return script
	}
	return r.left(script)
}

// left does calls, till the power goes out. It answers the calls behind the one by which it did.
func (r *run) left(script []call) []call {
	r.t.Helper()
	for i, c := range script {
		if r.do(c) {
			return script[i+1:]
		}
	}
	return nil
}

// TestByChanceFull is of P12.2 to P12.4: long scripts by chance on plates that are full again and again, beside another file.
func TestByChanceFull(t *testing.T) {
	seen := logBytes(t)
	for seed := range int64(60) {
		chance := rand.New(rand.NewSource(seed))
		room := 300 + chance.Intn(1500)
		other := chance.Intn(100)
		r := &run{t: t, p: on(t, room), name: "a-1", most: 1 + chance.Intn(300), keep: keepChance(chance), within: 3, room: room}
		checkIs(t, r.p.Append("a-1-x", make([]byte, other)), api.OK)
		checkIs(t, r.p.Sync("a-1-x"), api.OK)
		r.tryOpen()
		rest := chancyScript(chance, 300, seen)
		for len(rest) > 0 {
			r.p.Arm(chance.Intn(50))
			rest = r.left(rest)
			r.crash()
		}
		if got := diskOf(t, r.p)["a-1-x"]; len(got) != other {
			t.Errorf("the other file has %d bytes of %d", len(got), other)
		}
	}
}

// TestLikeFrames is of P12.3: records and bases whose bytes look like the log's own files, and crashes that keep each beginning of them.
func TestLikeFrames(t *testing.T) {
	for _, most := range []int{1, maxPart} {
		for _, data := range logBytes(t) {
			for _, script := range [][]call{{toAppend(data), toSync(), toAppend(data), toAppend("z")}, {toCheckpoint(data), toAppend(data), toAppend(data)}} {
				r := &run{t: t, p: on(t, 10000), name: "a", most: most}
				r.tryOpen()
				r.do(script...)
				rest := 0
				for file, b := range diskOf(t, r.p) {
					rest = max(rest, len(b)-r.p.Synced(file))
				}
				for n := 0; n <= rest; n += 1 + rest/20 {
					again := *r
					again.p, again.keep = r.p.Copy(), keepBut(n)
					again.crash()
					again.do(toAppend("y"), toSync())
					again.crash()
				}
			}
		}
	}
}

// TestEachBeginning is of P12.3: behind a crash that keeps so many bytes of the last file, so many records are told as are whole; each byte more tells as many, or more.
func TestEachBeginning(t *testing.T) {
	p := on(t, 1000)
	w := checkOpen(t, p, "a", maxPart, of(""))
	want := []string{"one", "", "three", "4"}
	for _, r := range want {
		checkOK(t, w, toAppend(r))
	}
	before := 0
	for n := range p.Used() + 1 {
		q := p.Copy()
		q.Crash(n)
		_, got := open(t, q, "a", maxPart)
		if len(got.records) < before || !got.equals(of("", want[:len(got.records)]...)) {
			t.Errorf("%d bytes: %v", n, got)
		}
		before = len(got.records)
	}
	if before != len(want) {
		t.Errorf("of all bytes: %d records", before)
	}
}

// TestNotMet is of P12.2 and P12.3: a crash that no call of a log has met. What it goes on to write doesn't come to stand behind less than it stood behind, and Sync isn't OK where something is gone.
func TestNotMet(t *testing.T) {
	for _, most := range []int{1, 20, maxPart} {
		for kept := range 40 {
			for length := range 5 {
				p := on(t, 10000)
				w := checkOpen(t, p, "a", most, of(""))
				want := []string{"a", "b", "c"}
				checkOK(t, w, toAppend("a"), toSync(), toAppend("b"), toAppend("c"))
				p.Crash(keepBut(kept)(p)...)
				q := p.Copy()
				_, got := open(t, q, "a", most)
				whole := len(got.records) == 3
				for i := range length {
					data := fmt.Sprint("d", i)
					if e := w.Append([]byte(data)); e == api.ErrDown && !whole {
						break
					} else if e != api.OK {
						t.Fatalf("Append behind a crash: %d", e)
					}
					want = append(want, data)
				}
				q = p.Copy()
				if e := w.Sync(); whole && e != api.OK || !whole && e != api.ErrDown {
					t.Errorf("most %d, %d kept: Sync: %d", most, kept, e)
				}
				if whole {
					checkOpen(t, p, "a", most, of("", want...))
					continue
				}
				checkDead(t, w)
				for _, p := range []*plate.Plate{p, q} {
					if _, got := open(t, p, "a", most); len(got.records) == 0 || len(got.records) > 3 || !slices.Equal(got.records, want[:len(got.records)]) {
						t.Errorf("most %d, %d kept: %v", most, kept, got)
					}
				}
			}
		}
	}
}

// TestNotMetCheckpoint is of P12.2: behind such a crash a checkpoint makes all good.
func TestNotMetCheckpoint(t *testing.T) {
	p := on(t, 1000)
	w := checkOpen(t, p, "a", maxPart, of(""))
	checkOK(t, w, toAppend("a"), toAppend("b"))
	p.Crash(3)
	checkOK(t, w, toAppend("c"), toCheckpoint("d"), toAppend("e"), toSync())
	p.Crash()
	checkOpen(t, p, "a", maxPart, of("d", "e"))
}

// TestTwice is of P12.1: Open twice without anything between tells the same, and changes nothing the second time.
func TestTwice(t *testing.T) {
	for _, most := range []int{1, 30, maxPart} {
		for _, script := range scriptsOf(4) {
			p := on(t, 1000)
			r := &run{t: t, p: p, name: "a", most: most}
			r.tryOpen()
			r.do(script...)
			want := r.m.content
			var was disk
			for i := range 3 {
				w := checkOpen(t, p, "a", most, want)
				got := diskOf(t, p)
				if i > 0 && !maps.Equal(got, was) {
					t.Fatalf("%v; was %v", got, was)
				}
				was = got
				checkCount(t, w, len(want.records))
			}
			p.Crash()
			checkOpen(t, p, "a", most, want)
		}
	}
}

// TestNil is of P12.2 and P1: every call of a nil log.
func TestNil(t *testing.T) {
	var w *wal.Wal
	for _, b := range [][]byte{nil, {}, []byte("a"), make([]byte, maxRecord), make([]byte, maxRecord+1)} {
		checkIs(t, w.Append(b), api.ErrNil)
		checkIs(t, w.Sync(), api.ErrNil)
		checkIs(t, w.Checkpoint(b), api.ErrNil)
		checkCount(t, w, 0)
	}
}

// roomy answers these bytes with room behind them, which is full of others.
func roomy(data string) []byte {
	out := append([]byte(data), strings.Repeat("!", 50)...)
	return out[:len(data)]
}

// checkRoomy looks whether these bytes and those behind them are as they were.
func checkRoomy(t *testing.T, b []byte, data string) {
	t.Helper()
	if string(b[:cap(b)][:len(data)+50]) != data+strings.Repeat("!", 50) {
		t.Errorf("what was handed in has changed: %q", b[:cap(b)])
	}
}

// over writes over bytes, and over the room behind them.
func over(b []byte) {
	b = b[:cap(b)]
	for i := range b {
		b[i] = '#'
	}
}

// TestMemoryIn is of P12.5: what is handed in isn't changed, and may be written over behind the call.
func TestMemoryIn(t *testing.T) {
	for _, most := range []int{1, maxPart} {
		p := on(t, 1<<20)
		w := checkOpen(t, p, "a", most, of(""))
		for _, data := range []string{"", "a", "abc", strings.Repeat("long", 5000)} {
			base, record := roomy("base "+data), roomy(data)
			checkIs(t, w.Checkpoint(base), api.OK)
			checkRoomy(t, base, "base "+data)
			over(base)
			checkIs(t, w.Append(record), api.OK)
			checkRoomy(t, record, data)
			over(record)
			again := roomy(data)
			checkIs(t, w.Append(again), api.OK)
			checkIs(t, w.Sync(), api.OK)
			over(again)
			p.Crash()
			w = checkOpen(t, p, "a", most, of("base "+data, data, data))
		}
		p.Arm(0)
		for _, call := range []func([]byte) api.Errno{w.Append, w.Checkpoint} {
			b := roomy("down")
			checkIs(t, call(b), api.ErrDown)
			checkRoomy(t, b, "down")
			b = roomy(strings.Repeat("l", maxRecord+1))
			checkIs(t, call(b), api.ErrLong)
			checkRoomy(t, b, strings.Repeat("l", maxRecord+1))
		}
	}
}

// TestMemoryOut is of P12.5: what Open answers shares no memory with the plate, with what another Open answers, nor within one answer.
func TestMemoryOut(t *testing.T) {
	for _, most := range []int{1, 30, maxPart} {
		p := on(t, 1<<20)
		w := checkOpen(t, p, "a", most, of(""))
		want := of("base", "a", "", "bcd", strings.Repeat("long", 5000), "e")
		checkOK(t, w, toCheckpoint(want.base))
		for _, r := range want.records {
			checkOK(t, w, toAppend(r))
		}
		checkOK(t, w, toSync())
		_, base, records, e := wal.Open(p, "a", most)
		_, base2, records2, e2 := wal.Open(p, "a", most)
		checkIs(t, e, api.OK)
		checkIs(t, e2, api.OK)
		over(base)
		if !told(nil, records).equals(of("", want.records...)) {
			t.Errorf("records: %q", records)
		}
		for i := range records {
			over(records[i])
			for j := i + 1; j < len(records); j++ {
				if string(records[j]) != want.records[j] {
					t.Errorf("record %d: %q", j, records[j])
				}
			}
		}
		clear(records[:cap(records)])
		if got := told(base2, records2); !got.equals(want) {
			t.Errorf("%v", got)
		}
		p.Crash()
		w = checkOpen(t, p, "a", most, want)
		checkOK(t, w, toAppend("f"), toSync())
		checkOpen(t, p, "a", most, of("base", append(want.records, "f")...))
	}
}

// TestLive is of P12.5: what Open has answered stays as it was through the calls behind it.
func TestLive(t *testing.T) {
	p := on(t, 1<<20)
	w := checkOpen(t, p, "a", 10, of(""))
	checkOK(t, w, toCheckpoint("base"), toAppend("a"), toAppend("b"))
	w, base, records, e := wal.Open(p, "a", 10)
	checkIs(t, e, api.OK)
	checkOK(t, w, toAppend("c"), toCheckpoint("other"), toAppend("d"), toSync(), toCheckpoint(""))
	p.Crash()
	if got := told(base, records); !got.equals(of("base", "a", "b")) {
		t.Errorf("%v", got)
	}
}

// held answers how many bytes the program holds.
func held() int {
	runtime.GC()
	runtime.GC()
	var m runtime.MemStats
	runtime.ReadMemStats(&m)
	return int(m.HeapAlloc)
}

// TestGone is of P12.5: a log holds neither records nor bases, be they told, written or gone.
func TestGone(t *testing.T) {
	const slack = 1 << 19
	for _, most := range []int{1, maxPart} {
		p := on(t, maxRoom)
		before := held()
		w := checkOpen(t, p, "a", most, of(""))
		for i := range 200 {
			checkIs(t, w.Append(bytes.Repeat([]byte{byte(i)}, maxRecord)), api.OK)
		}
		checkOK(t, w, toSync())
		p.Crash() // that leaves each file so much memory as it needs
		if got := held() - before; got > p.Used()*3/2+slack {
			t.Errorf("%d bytes are held, %d are in use", got, p.Used())
		}
		between := held()
		w, _ = open(t, p, "a", most)
		if got := held() - between; got > slack {
			t.Errorf("of what was told %d bytes are held", got)
		}
		checkIs(t, w.Checkpoint(make([]byte, maxRecord)), api.OK)
		if got := held() - before; got > 4*maxRecord+slack {
			t.Errorf("behind a checkpoint %d bytes are held", got)
		}
		runtime.KeepAlive(w)
		runtime.KeepAlive(p)
	}
}

// frameOf answers the frame of an int and a text.
func frameOf(n int, s string) string {
	w := wire.NewWriter()
	w.Int(n)
	w.Text(s)
	b, _ := w.Frame()
	return string(b)
}

// TestJunk is of P1: whatever bytes stand in files that have names as the log's, Open ends; what it has told once it tells again, and the log is one that can be used.
func TestJunk(t *testing.T) {
	var names []string
	for _, n := range []string{"0", "1", "2", "9", "0000000000", "0000000001", "0000000002", "9999999999", "00000000001", "9999999999999999999", strings.Repeat("9", 62)} {
		names = append(names, "a-"+n)
	}
	texts := []string{"", "\x00", "\x00\x00\x00\x00\x00\x00\x00\x00", "\xff\xff\xff\xff\xff\xff\xff\xff\xff", "\x7f\xff\xff\xff1234", "\x80\x00\x00\x00\x00\x00\x00\x00"}
	for _, n := range []int{least, -1, 0, 1, 2, 3, 1 << 32, greatest} {
		texts = append(texts, frameOf(n, ""), frameOf(n, "x")+frameOf(1, "y"), frameOf(0, "base")+frameOf(n, "z")+frameOf(2, "v"), frameOf(1, "y")+frameOf(2, "z"))
	}
	empty, _ := wire.NewWriter().Frame()
	more := wire.NewWriter()
	more.Int(0)
	more.Text("x")
	more.Text("more")
	long, _ := more.Frame()
	texts = append(texts, string(empty), string(long), strings.Repeat(string(empty), 3), string(long)+frameOf(0, "b"))
	chance := rand.New(rand.NewSource(5))
	for range 3000 {
		p := on(t, 1<<20)
		for range 1 + chance.Intn(4) {
			checkIs(t, p.Append(names[chance.Intn(len(names))], []byte(texts[chance.Intn(len(texts))])), api.OK)
		}
		p.Crash(keepAll(p)...)
		q := p.Copy()
		most := []int{1, 30, maxPart}[chance.Intn(3)]
		_, got := open(t, q, "a", most)
		q.Crash()
		w := checkOpen(t, q, "a", most, got)
		if slices.ContainsFunc(p.Names(), func(name string) bool { return name > "a-9" }) {
			continue
		}
		checkOK(t, w, toAppend("1"), toAppend("2"), toSync())
		q.Crash()
		w = checkOpen(t, q, "a", most, of(got.base, append(got.records, "1", "2")...))
		checkOK(t, w, toCheckpoint("3"), toAppend("4"), toSync())
		q.Crash()
		checkOpen(t, q, "a", most, of("3", "4"))
	}
}

// TestEnds is of P1: every call ends at all arguments, in any order.
func TestEnds(t *testing.T) {
	chance := rand.New(rand.NewSource(1))
	names := append(goodNames(), badNames()...)
	mosts := append(goodMosts(), badMosts()...)
	for range 300 {
		p := on(t, chance.Intn(3000))
		var w *wal.Wal
		for range 60 {
			data := make([]byte, []int{0, 1, 10, 500, maxRecord, maxRecord + 1}[chance.Intn(6)])
			switch chance.Intn(8) {
			case 0:
				w, _, _, _ = wal.Open(p, names[chance.Intn(len(names))], mosts[chance.Intn(len(mosts))])
			case 1:
				p.Arm(chance.Intn(20) - 1)
			case 2:
				p.Crash(keepChance(chance)(p)...)
			case 3:
				w.Checkpoint(data)
			case 4:
				w.Sync()
			default:
				w.Append(data)
			}
			if w.Count() < 0 {
				t.Fatal("Count")
			}
		}
	}
}
