package lane_test

import (
	"fmt"
	"math"
	"math/rand"
	"runtime"
	"slices"
	"strings"
	"testing"

	"signet/api"
	"signet/lane"
)

const (
	least    = math.MinInt
	greatest = math.MaxInt

	maxNodes  = 32
	maxPacket = 65544
	maxFlight = 4096
)

// The face, as the chapter has it.
var (
	_ func(int) (*lane.Lane, api.Errno)                    = lane.New
	_ func(*lane.Lane, int, int, []byte) api.Errno         = (*lane.Lane).Send
	_ func(*lane.Lane) int                                 = (*lane.Lane).Count
	_ func(*lane.Lane, int) (api.Packet, api.Errno)        = (*lane.Lane).At
	_ func(*lane.Lane) int                                 = (*lane.Lane).Next
	_ func(*lane.Lane, int) (api.Packet, api.Errno)        = (*lane.Lane).Take
	_ func(*lane.Lane, int) api.Errno                      = (*lane.Lane).Drop
	_ func(*lane.Lane, int) api.Errno                      = (*lane.Lane).Twice
	_ func(l *lane.Lane, k, at int, by byte) (_ api.Errno) = (*lane.Lane).Spoil
	_ func(*lane.Lane, int, int) api.Errno                 = (*lane.Lane).Shut
	_ func(*lane.Lane, int, int) api.Errno                 = (*lane.Lane).Join
	_ func(*lane.Lane)                                     = (*lane.Lane).Heal
	_ func(*lane.Lane, int, int) bool                      = (*lane.Lane).Open
)

// odd are ints that no lane has for a node, or for a packet's number or place.
func odd() []int {
	return []int{least, least + 1, -1 << 32, -maxNodes, -2, -1, 1 << 31, 1 << 32, 1<<32 + 1, greatest - 1, greatest}
}

// packet is one, with its bytes as a text.
type packet struct {
	from, to int
	data     string
}

// model is a lane by the chapter's words: a list of packets, and whether each node's way to each other one is shut.
type model struct {
	nodes   int
	packets []packet
	shut    [maxNodes][maxNodes]bool
}

func (m *model) isNode(n int) bool { return n >= 0 && n <= m.nodes-1 }

func (m *model) open(a, b int) bool {
	return m.isNode(a) && m.isNode(b) && (a == b || !m.shut[a][b])
}

func (m *model) next() int {
	for k, p := range m.packets {
		if m.open(p.from, p.to) {
			return k
		}
	}
	return -1
}

// without leaves all packets but that one.
func (m *model) without(k int) {
	var out []packet
	for i, p := range m.packets {
		if i != k {
			out = append(out, p)
		}
	}
	m.packets = out
}

// The calls that change a lane.
const (
	aSend  = "send"
	aTake  = "take"
	aDrop  = "drop"
	aTwice = "twice"
	aSpoil = "spoil"
	aShut  = "shut"
	aJoin  = "join"
	aHeal  = "heal"
	anAt   = "at"
)

// call is one of them, with what is handed in: two nodes, or a packet's number and a place in it.
type call struct {
	kind string
	a, b int
	by   byte
	data string
}

func toSend(from, to int, data string) call { return call{kind: aSend, a: from, b: to, data: data} }
func toAt(k int) call                       { return call{kind: anAt, a: k} }
func toTake(k int) call                     { return call{kind: aTake, a: k} }
func toDrop(k int) call                     { return call{kind: aDrop, a: k} }
func toTwice(k int) call                    { return call{kind: aTwice, a: k} }
func toSpoil(k, at int, by byte) call       { return call{kind: aSpoil, a: k, b: at, by: by} }
func toShut(a, b int) call                  { return call{kind: aShut, a: a, b: b} }
func toJoin(a, b int) call                  { return call{kind: aJoin, a: a, b: b} }
func toHeal() call                          { return call{kind: aHeal} }
func (c call) String() string {
	return fmt.Sprint(c.kind, " ", c.a, " ", c.b, " ", c.by, " ", len(c.data))
}
func ofAll(k int) []call { return []call{toAt(k), toTake(k), toDrop(k), toTwice(k), toSpoil(k, 0, 1)} }
func told(p api.Packet, e api.Errno) (packet, api.Errno) {
	return packet{p.From, p.To, string(p.Data)}, e
}

// do asks a lane.
func (c call) do(l *lane.Lane) (packet, api.Errno) {
	switch c.kind {
	case aSend:
		return packet{}, l.Send(c.a, c.b, []byte(c.data))
	case anAt:
		return told(l.At(c.a))
	case aTake:
		return told(l.Take(c.a))
	case aDrop:
		return packet{}, l.Drop(c.a)
	case aTwice:
		return packet{}, l.Twice(c.a)
	case aSpoil:
		return packet{}, l.Spoil(c.a, c.b, c.by)
	case aShut:
		return packet{}, l.Shut(c.a, c.b)
	case aJoin:
		return packet{}, l.Join(c.a, c.b)
	}
	l.Heal()
	return packet{}, api.OK
}

// reckon asks the model.
func (c call) reckon(m *model) (packet, api.Errno) {
	switch c.kind {
	case aHeal:
		m.shut = [maxNodes][maxNodes]bool{}
		return packet{}, api.OK
	case aShut, aJoin:
		if !m.isNode(c.a) || !m.isNode(c.b) || c.a == c.b {
			return packet{}, api.ErrRange
		}
		m.shut[c.a][c.b], m.shut[c.b][c.a] = c.kind == aShut, c.kind == aShut
		return packet{}, api.OK
	case aSend:
		if !m.isNode(c.a) || !m.isNode(c.b) {
			return packet{}, api.ErrRange
		}
		if len(c.data) > maxPacket {
			return packet{}, api.ErrLong
		}
		return packet{}, m.add(packet{c.a, c.b, c.data})
	}
	return c.reckonPacket(m)
}

func (m *model) add(p packet) api.Errno {
	if len(m.packets) == maxFlight {
		return api.ErrFull
	}
	m.packets = append(m.packets, p)
	return api.OK
}

// reckonPacket asks the model for one packet.
func (c call) reckonPacket(m *model) (packet, api.Errno) {
	if c.a < 0 || c.a > len(m.packets)-1 {
		return packet{}, api.ErrRange
	}
	p := m.packets[c.a]
	switch c.kind {
	case anAt:
		return p, api.OK
	case aTake:
		if !m.open(p.from, p.to) {
			return packet{}, api.ErrDown
		}
		m.without(c.a)
		return p, api.OK
	case aDrop:
		m.without(c.a)
	case aTwice:
		return packet{}, m.add(p)
	case aSpoil:
		if c.b < 0 || c.b > len(p.data)-1 {
			return packet{}, api.ErrRange
		}
		m.packets[c.a].data = p.data[:c.b] + string([]byte{p.data[c.b] ^ c.by}) + p.data[c.b+1:]
	}
	return packet{}, api.OK
}

// packetsOf tells those that a lane has under way.
func packetsOf(t *testing.T, l *lane.Lane) []packet {
	t.Helper()
	var out []packet
	for k := range l.Count() {
		p, e := told(l.At(k))
		if e != api.OK {
			t.Fatalf("At(%d) of %d: %d", k, l.Count(), e)
		}
		out = append(out, p)
	}
	return out
}

// check asks whether a lane has these packets under way, and no others.
func check(t *testing.T, l *lane.Lane, want ...packet) {
	t.Helper()
	if got := packetsOf(t, l); !slices.Equal(got, want) {
		t.Errorf("under way are %.300q, not %.300q", fmt.Sprint(got), fmt.Sprint(want))
	}
	for _, k := range []int{-1, len(want)} {
		if p, e := told(l.At(k)); p != (packet{}) || e != api.ErrRange {
			t.Errorf("At(%d) of %d: %v, %d", k, len(want), p, e)
		}
	}
}

func checkNext(t *testing.T, l *lane.Lane, want int) {
	t.Helper()
	if got := l.Next(); got != want {
		t.Errorf("Next: %d, not %d", got, want)
	}
}

// checkAlike asks whether a lane is as a model: its packets, which comes next, and each link.
func checkAlike(t *testing.T, l *lane.Lane, m *model) {
	t.Helper()
	check(t, l, m.packets...)
	checkNext(t, l, m.next())
	for a := -1; a <= m.nodes; a++ {
		for b := -1; b <= m.nodes; b++ {
			if got := l.Open(a, b); got != m.open(a, b) {
				t.Errorf("Open(%d, %d) of %d nodes: %t", a, b, m.nodes, got)
			}
		}
	}
}

// checkCall asks what a lane answers to a call.
func checkCall(t *testing.T, l *lane.Lane, c call, want packet, wantErr api.Errno) {
	t.Helper()
	if p, e := c.do(l); p != want || e != wantErr {
		t.Errorf("%v: %.300q, %d, not %.300q, %d", c, fmt.Sprint(p), e, fmt.Sprint(want), wantErr)
	}
}

// checkOK makes calls that a lane does, and that answer no packet.
func checkOK(t *testing.T, l *lane.Lane, calls ...call) {
	t.Helper()
	for _, c := range calls {
		checkCall(t, l, c, packet{}, api.OK)
	}
}

// checkModel makes a call of a lane and of a model, and asks whether both answer alike and are alike behind it.
func checkModel(t *testing.T, l *lane.Lane, m *model, c call) {
	t.Helper()
	want, wantErr := c.reckon(m)
	checkCall(t, l, c, want, wantErr)
	checkAlike(t, l, m)
}

// of answers a new lane of so many nodes, behind these calls.
func of(t *testing.T, nodes int, calls ...call) *lane.Lane {
	t.Helper()
	l, e := lane.New(nodes)
	if e != api.OK || l == nil {
		t.Fatalf("New(%d): %d", nodes, e)
	}
	checkOK(t, l, calls...)
	return l
}

// fill puts packets on their way, of two bytes that tell their numbers, until so many are under way.
func fill(t *testing.T, l *lane.Lane, m *model, count int) {
	t.Helper()
	for len(m.packets) < count {
		k := len(m.packets)
		c := toSend(k%m.nodes, k/3%m.nodes, string([]byte{byte(k >> 8), byte(k)}))
		c.reckon(m)
		checkOK(t, l, c)
	}
}

// TestExample is of P11.2 to P11.4: the chapter's example.
func TestExample(t *testing.T) {
	l := of(t, 3, toSend(0, 1, "a"), toSend(1, 2, "b"), toShut(0, 1))
	checkNext(t, l, 1)
	checkCall(t, l, toTake(0), packet{}, api.ErrDown)
	checkCall(t, l, toTake(1), packet{1, 2, "b"}, api.OK)
	checkOK(t, l, toTwice(0), toHeal())
	checkNext(t, l, 0)
	if l.Count() != 2 {
		t.Errorf("Count: %d", l.Count())
	}
	check(t, l, packet{0, 1, "a"}, packet{0, 1, "a"})
}

// TestNew is of P11.1: numbers of nodes at their bounds and beyond; a new lane has no packets, and all its links are open.
func TestNew(t *testing.T) {
	for _, nodes := range append(odd(), 0, maxNodes+1, maxNodes+2, 64, 256, 257) {
		if l, e := lane.New(nodes); l != nil || e != api.ErrArg {
			t.Errorf("New(%d): %v, %d", nodes, l != nil, e)
		}
	}
	for nodes := 1; nodes <= maxNodes; nodes++ {
		l := of(t, nodes)
		checkAlike(t, l, &model{nodes: nodes})
		if l.Count() != 0 {
			t.Errorf("Count: %d", l.Count())
		}
	}
}

// TestNewApart is of P11.1: each lane has packets and links of its own.
func TestNewApart(t *testing.T) {
	l, other := of(t, 3), of(t, 3)
	checkOK(t, l, toSend(0, 1, "a"), toShut(0, 1))
	checkAlike(t, other, &model{nodes: 3})
	checkOK(t, other, toSend(0, 1, "b"), toSpoil(0, 0, 1), toShut(1, 2))
	other.Heal()
	check(t, l, packet{0, 1, "a"})
	checkNext(t, l, -1)
	checkNext(t, other, 0)
}

// TestSendNodes is of P11.2: from and to each node, and numbers that are none.
func TestSendNodes(t *testing.T) {
	for _, nodes := range []int{1, 2, 3, 31, maxNodes} {
		l, m := of(t, nodes), &model{nodes: nodes}
		for from := range nodes {
			for to := range nodes {
				c := toSend(from, to, fmt.Sprint(from, " to ", to))
				c.reckon(m)
				checkOK(t, l, c)
			}
		}
		if got := l.Count(); got != nodes*nodes {
			t.Errorf("Count: %d", got)
		}
		for _, none := range append(odd(), nodes, nodes+1, nodes+maxNodes) {
			for _, n := range []int{0, nodes - 1, none, -1, nodes, least, greatest} {
				checkCall(t, l, toSend(none, n, "x"), packet{}, api.ErrRange)
				checkCall(t, l, toSend(n, none, "x"), packet{}, api.ErrRange)
			}
		}
		checkAlike(t, l, m)
	}
}

// TestSendBytes is of P11.2: nil, no bytes, all bytes, the most bytes and one more.
func TestSendBytes(t *testing.T) {
	l := of(t, 2)
	every := make([]byte, 256)
	for i := range every {
		every[i] = byte(i)
	}
	most := make([]byte, maxPacket+1)
	for i := range most {
		most[i] = byte(i * 7)
	}
	sent := [][]byte{nil, {}, every[:1], every, most[:maxPacket-1], most[:maxPacket]}
	var want []packet
	for i, b := range sent {
		if e := l.Send(i%2, 1, b); e != api.OK || l.Count() != i+1 {
			t.Errorf("%d bytes: %d, %d under way", len(b), e, l.Count())
		}
		want = append(want, packet{i % 2, 1, string(b)})
	}
	for _, n := range []int{maxPacket + 1, maxPacket + 2, 65545 + 256, 1 << 17, 1 << 24} {
		for to := range 2 {
			if e := l.Send(0, to, make([]byte, n)); e != api.ErrLong {
				t.Errorf("%d bytes: %d", n, e)
			}
		}
	}
	check(t, l, want...)
	for _, p := range want {
		checkCall(t, l, toTake(0), p, api.OK)
	}
}

// TestSendShut is of P11.2 and P11.3: a shut link doesn't keep a packet from being sent; it stays under way.
func TestSendShut(t *testing.T) {
	l := of(t, 2, toShut(0, 1), toSend(0, 1, "a"), toSend(1, 0, "b"))
	check(t, l, packet{0, 1, "a"}, packet{1, 0, "b"})
	checkNext(t, l, -1)
	checkOK(t, l, toJoin(0, 1))
	checkCall(t, l, toTake(0), packet{0, 1, "a"}, api.OK)
	checkCall(t, l, toTake(0), packet{1, 0, "b"}, api.OK)
}

// TestFull is of P11.2 and P11.3: Send and Twice with 4095, 4096 and more packets, and room that comes back.
func TestFull(t *testing.T) {
	for _, last := range []call{toSend(1, 2, "the last"), toTwice(0), toTwice(2000), toTwice(maxFlight - 2)} {
		l, m := of(t, 3), &model{nodes: 3}
		fill(t, l, m, maxFlight-1)
		checkModel(t, l, m, last)
		if got := l.Count(); got != maxFlight {
			t.Fatalf("Count: %d", got)
		}
		for _, c := range []call{toSend(0, 1, ""), toSend(0, 0, "x"), toSend(2, 1, strings.Repeat("x", maxPacket)), toTwice(0), toTwice(1), toTwice(maxFlight - 1)} {
			for range 2 {
				checkCall(t, l, c, packet{}, api.ErrFull)
			}
		}
		checkAlike(t, l, m)
		for _, c := range []call{toDrop(0), last, toTake(maxFlight - 1), last, toDrop(maxFlight / 2), toTwice(7), toSend(0, 0, "z"), toTake(5), toSend(2, 2, "")} {
			checkModel(t, l, m, c)
		}
		if got := l.Count(); got != maxFlight {
			t.Fatalf("Count: %d", got)
		}
	}
}

// TestFirstError is of P11.2 and P11.3: which error is answered where several apply, and that nothing has changed.
func TestFirstError(t *testing.T) {
	l, m := of(t, 3), &model{nodes: 3}
	fill(t, l, m, 5)
	full, fullModel := of(t, 3), &model{nodes: 3}
	fill(t, full, fullModel, maxFlight)
	for _, c := range []call{toShut(0, 1), toShut(1, 2), toShut(0, 2)} {
		for range 2 {
			checkModel(t, l, m, c)
		}
		checkModel(t, full, fullModel, c)
	}
	long, short := strings.Repeat("x", maxPacket+1), "x"
	for _, none := range append(odd(), 3, maxNodes) {
		for _, data := range []string{long, short} {
			for _, c := range []call{toSend(none, 0, data), toSend(0, none, data), toSend(none, none, data)} {
				checkCall(t, nil, c, packet{}, api.ErrNil)
				checkCall(t, l, c, packet{}, api.ErrRange)
				checkCall(t, full, c, packet{}, api.ErrRange)
			}
		}
	}
	for n := range 3 {
		checkCall(t, nil, toSend(0, n, long), packet{}, api.ErrNil)
		checkCall(t, l, toSend(0, n, long), packet{}, api.ErrLong)
		checkCall(t, full, toSend(0, n, long), packet{}, api.ErrLong)
		checkCall(t, full, toSend(0, n, short), packet{}, api.ErrFull)
	}
	for _, k := range append(odd(), maxFlight, maxFlight+1) {
		for _, c := range append(ofAll(k), toSpoil(k, least, 1), toSpoil(k, greatest, 0)) {
			checkCall(t, nil, c, packet{}, api.ErrNil)
			checkCall(t, l, c, packet{}, api.ErrRange)
			checkCall(t, full, c, packet{}, api.ErrRange)
		}
	}
	checkAlike(t, l, m)
	checkAlike(t, full, fullModel)
}

// TestPlaces is of P11.2 and P11.3: At, Take, Drop, Twice and Spoil of each packet, and of numbers that none has.
func TestPlaces(t *testing.T) {
	begin := func(count int) (*lane.Lane, *model) {
		l, m := of(t, 3), &model{nodes: 3}
		fill(t, l, m, count)
		return l, m
	}
	for _, count := range []int{0, 1, 2, 3, 8, 33} {
		for k := range count {
			for _, c := range ofAll(k) {
				l, m := begin(count)
				checkModel(t, l, m, c)
				want := count
				switch c.kind {
				case aTake, aDrop:
					want--
				case aTwice:
					want++
				}
				if got := l.Count(); got != want {
					t.Errorf("%v of %d: %d are under way", c, count, got)
				}
			}
		}
		l, m := begin(count)
		for _, k := range append(odd(), count, count+1, count+maxFlight) {
			for _, c := range ofAll(k) {
				checkCall(t, l, c, packet{}, api.ErrRange)
			}
		}
		checkAlike(t, l, m)
	}
}

// TestNumbers is of P11.3: packets behind one that is taken or dropped have one number less, the others stay; written out.
func TestNumbers(t *testing.T) {
	begin := []call{toSend(0, 1, "a"), toSend(1, 2, "b"), toSend(2, 0, "c"), toSend(2, 2, "d"), toSend(1, 0, "e")}
	a, b, c, d, e := packet{0, 1, "a"}, packet{1, 2, "b"}, packet{2, 0, "c"}, packet{2, 2, "d"}, packet{1, 0, "e"}
	for k, want := range [][]packet{{b, c, d, e}, {a, c, d, e}, {a, b, d, e}, {a, b, c, e}, {a, b, c, d}} {
		l := of(t, 3, begin...)
		checkCall(t, l, toTake(k), []packet{a, b, c, d, e}[k], api.OK)
		check(t, l, want...)
		checkOK(t, l, toSend(0, 0, "new"))
		check(t, l, append(want, packet{0, 0, "new"})...)
		l = of(t, 3, append(begin, toDrop(k))...)
		check(t, l, want...)
		checkOK(t, l, toTwice(1))
		check(t, l, append(want, want[1])...)
	}
	l := of(t, 3, append(begin, toDrop(3), toDrop(1))...)
	check(t, l, a, c, e)
	checkCall(t, l, toTake(2), e, api.OK)
	checkCall(t, l, toTake(0), a, api.OK)
	check(t, l, c)
	checkOK(t, l, toTwice(0), toTwice(1), toDrop(0))
	check(t, l, c, c)
	checkOK(t, l, toDrop(1), toDrop(0))
	check(t, l)
	for _, gone := range append(ofAll(0), ofAll(1)...) {
		checkCall(t, l, gone, packet{}, api.ErrRange)
	}
}

// TestTake is of P11.3: over a shut link nothing comes, whatever is asked; At, Drop, Twice and Spoil don't ask for the link.
func TestTake(t *testing.T) {
	l, m := of(t, 3), &model{nodes: 3}
	for _, c := range []call{toSend(0, 1, "a"), toSend(1, 0, "b"), toSend(1, 2, "c"), toSend(1, 1, "d"), toShut(1, 0)} {
		checkModel(t, l, m, c)
	}
	for range 3 {
		for k := range 2 {
			checkCall(t, l, toTake(k), packet{}, api.ErrDown)
		}
	}
	checkAlike(t, l, m)
	for _, c := range []call{toAt(0), toTwice(0), toSpoil(0, 0, 2), toTake(4), toTake(3), toTake(2), toDrop(0), toTake(0), toTake(1), toJoin(0, 1), toTake(1), toTake(0), toTake(0)} {
		checkModel(t, l, m, c)
	}
}

// TestNext is of P11.3: with all links open, with some shut, with none open, without packets; and packets of a node to itself.
func TestNext(t *testing.T) {
	l := of(t, 3)
	checkNext(t, l, -1)
	checkOK(t, l, toShut(0, 1), toShut(1, 2), toShut(0, 2))
	checkNext(t, l, -1)
	checkOK(t, l, toSend(0, 1, "a"), toSend(2, 1, "b"), toSend(0, 2, "c"), toSend(1, 0, "d"))
	checkNext(t, l, -1)
	for _, c := range []struct {
		join call
		want int
	}{{toJoin(0, 2), 2}, {toJoin(1, 2), 1}, {toJoin(1, 0), 0}, {toShut(1, 0), 1}, {toShut(2, 1), 2}, {toShut(2, 0), -1}, {toHeal(), 0}} {
		checkOK(t, l, c.join)
		for range 2 {
			checkNext(t, l, c.want)
		}
	}
	checkOK(t, l, toShut(0, 1), toDrop(1))
	checkNext(t, l, 1)
	checkOK(t, l, toShut(0, 2))
	checkNext(t, l, -1)
	for n := range 3 {
		checkOK(t, l, toSend(n, n, "own"), toShut(1, 2))
		checkNext(t, l, 3)
		checkCall(t, l, toTake(3), packet{n, n, "own"}, api.OK)
		checkNext(t, l, -1)
	}
	checkOK(t, l, toDrop(0), toDrop(0), toDrop(0), toHeal())
	checkNext(t, l, -1)
}

// TestNextFar is of P11.3: the one packet that comes stands behind all others, or in their midst.
func TestNextFar(t *testing.T) {
	for _, at := range []int{0, 1, 2047, maxFlight - 2, maxFlight - 1} {
		l := of(t, 3, toShut(0, 1))
		for k := range maxFlight {
			c := toSend(k%2, 1-k%2, "x")
			if k == at {
				c = toSend(2, 1, "comes")
			}
			checkOK(t, l, c)
		}
		checkNext(t, l, at)
		checkCall(t, l, toTake(at), packet{2, 1, "comes"}, api.OK)
		checkNext(t, l, -1)
		l.Heal()
		checkNext(t, l, 0)
	}
}

// TestSpoil is of P11.3: at each byte, and beyond, by each byte; no other byte and no other packet is changed.
func TestSpoil(t *testing.T) {
	const data = "\x00abc\xff"
	for at := range len(data) {
		for by := range 256 {
			l := of(t, 2, toSend(0, 1, data), toSend(0, 1, data), toSend(1, 0, data))
			spoilt := []byte(data)
			spoilt[at] = (spoilt[at] | byte(by)) - (spoilt[at] & byte(by))
			checkOK(t, l, toSpoil(1, at, byte(by)))
			check(t, l, packet{0, 1, data}, packet{0, 1, string(spoilt)}, packet{1, 0, data})
			checkOK(t, l, toSpoil(1, at, byte(by)))
			check(t, l, packet{0, 1, data}, packet{0, 1, data}, packet{1, 0, data})
		}
	}
	l := of(t, 2, toSend(0, 1, data), toSend(1, 1, ""), toSend(1, 0, "z"))
	if e := l.Send(1, 0, nil); e != api.OK {
		t.Error(e)
	}
	for k, p := range packetsOf(t, l) {
		for _, at := range append(odd(), len(p.data), len(p.data)+1, maxPacket) {
			for _, by := range []byte{0, 1, 255} {
				checkCall(t, l, toSpoil(k, at, by), packet{}, api.ErrRange)
			}
		}
	}
	check(t, l, packet{0, 1, data}, packet{1, 1, ""}, packet{1, 0, "z"}, packet{1, 0, ""})
}

// TestSpoilNamed is of P11.3: written out.
func TestSpoilNamed(t *testing.T) {
	l := of(t, 2, toSend(0, 1, "ab"))
	for _, c := range []struct {
		at   int
		by   byte
		want string
	}{{0, 0, "ab"}, {0, 255, "\x9eb"}, {1, 0x20, "\x9eB"}, {0, 255, "aB"}, {1, 0x20, "ab"}, {1, 3, "aa"}, {1, 255, "a\x9e"}, {0, 'a', "\x00\x9e"}} {
		checkOK(t, l, toSpoil(0, c.at, c.by))
		check(t, l, packet{0, 1, c.want})
	}
	checkCall(t, l, toTake(0), packet{0, 1, "\x00\x9e"}, api.OK)
}

// TestSpoilLong is of P11.3: the first, the last and the midst of the longest packet.
func TestSpoilLong(t *testing.T) {
	l, m := of(t, 2), &model{nodes: 2}
	for _, c := range []call{toSend(0, 1, strings.Repeat("y", maxPacket)), toSpoil(0, 0, 1), toSpoil(0, maxPacket/2, 2), toSpoil(0, maxPacket-1, 4), toSpoil(0, maxPacket, 8), toSpoil(0, -1, 8), toTake(0)} {
		checkModel(t, l, m, c)
	}
}

// TestTwice is of P11.3: of two packets each is alone: spoilt, taken or dropped.
func TestTwice(t *testing.T) {
	begin := []call{toSend(0, 1, "abc"), toSend(2, 1, ""), toTwice(0), toTwice(1), toTwice(2)}
	abc, none := packet{0, 1, "abc"}, packet{2, 1, ""}
	l := of(t, 3, begin...)
	check(t, l, abc, none, abc, none, abc)
	for _, k := range []int{0, 2, 4} {
		want := []packet{abc, none, abc, none, abc}
		want[k].data = "aBc"
		l := of(t, 3, append(begin, toSpoil(k, 1, 0x20))...)
		check(t, l, want...)
		checkCall(t, l, toTake(k), packet{0, 1, "aBc"}, api.OK)
		check(t, l, slices.Delete(want, k, k+1)...)
	}
	// One that is spoilt is doubled so.
	checkOK(t, l, toSpoil(4, 0, 1), toTwice(4), toDrop(4), toSpoil(0, 0, 2))
	check(t, l, packet{0, 1, "cbc"}, none, abc, none, packet{0, 1, "`bc"})
	// A packet is doubled over a shut link, too.
	checkOK(t, l, toShut(0, 1), toTwice(0))
	checkNext(t, l, 1)
	check(t, l, packet{0, 1, "cbc"}, none, abc, none, packet{0, 1, "`bc"}, packet{0, 1, "cbc"})
	p, _ := l.At(5)
	p.Data[0] = 'x'
	check(t, l, packet{0, 1, "cbc"}, none, abc, none, packet{0, 1, "`bc"}, packet{0, 1, "cbc"})
}

// TestLinks is of P11.4: each link of some lanes shut alone, either way round, and once more; no other one is shut by it.
func TestLinks(t *testing.T) {
	for _, nodes := range []int{2, 3, 7, maxNodes} {
		l, m := of(t, nodes), &model{nodes: nodes}
		for a := range nodes {
			for b := range nodes {
				if a == b {
					continue
				}
				for _, c := range []call{toShut(a, b), toShut(b, a), toShut(a, b), toJoin(b, a), toJoin(a, b), toShut(a, b), toJoin(a, b), toShut(b, a), toHeal(), toHeal()} {
					c.reckon(m)
					checkOK(t, l, c)
					if l.Open(a, b) != m.open(a, b) || l.Open(b, a) != m.open(a, b) {
						t.Errorf("behind %v: %t, %t", c, l.Open(a, b), l.Open(b, a))
					}
				}
				checkModel(t, l, m, toShut(a, b))
				checkModel(t, l, m, toJoin(b, a))
			}
		}
		for a := range nodes {
			for b := range a {
				c := toShut(a, b)
				c.reckon(m)
				checkOK(t, l, c)
			}
		}
		checkAlike(t, l, m)
		checkModel(t, l, m, toJoin(nodes-1, 0))
		checkModel(t, l, m, toHeal())
	}
}

// TestNoLink is of P11.4: numbers that are no nodes, and a node with itself.
func TestNoLink(t *testing.T) {
	for _, nodes := range []int{1, 2, 3, 31, maxNodes} {
		l, m := of(t, nodes), &model{nodes: nodes}
		if nodes > 2 {
			checkModel(t, l, m, toShut(0, nodes-1))
			checkModel(t, l, m, toShut(0, 1))
		}
		for _, none := range append(odd(), nodes, nodes+1, 2*nodes, maxNodes, maxNodes+1) {
			if none < nodes && none >= 0 {
				continue
			}
			for _, n := range append(odd(), 0, 1, nodes-1, nodes, none) {
				for _, pair := range [][2]int{{none, n}, {n, none}} {
					checkCall(t, l, toShut(pair[0], pair[1]), packet{}, api.ErrRange)
					checkCall(t, l, toJoin(pair[0], pair[1]), packet{}, api.ErrRange)
					if l.Open(pair[0], pair[1]) {
						t.Errorf("Open(%d, %d) of %d nodes", pair[0], pair[1], nodes)
					}
				}
			}
		}
		for n := range nodes {
			for range 2 {
				checkCall(t, l, toShut(n, n), packet{}, api.ErrRange)
				if !l.Open(n, n) {
					t.Errorf("Open(%d, %d)", n, n)
				}
				checkCall(t, l, toJoin(n, n), packet{}, api.ErrRange)
			}
		}
		checkAlike(t, l, m)
	}
}

// TestHeal is of P11.4: all links, whatever is under way; nothing else is changed.
func TestHeal(t *testing.T) {
	l, m := of(t, 5), &model{nodes: 5}
	fill(t, l, m, 50)
	for range 2 {
		for a := range 5 {
			for b := range a {
				checkModel(t, l, m, toShut(a, b))
			}
		}
		checkModel(t, l, m, toHeal())
		checkModel(t, l, m, toHeal())
		for k := range 10 {
			checkModel(t, l, m, toTake(k))
		}
	}
}

// TestInOrder is of P11.5: taken by Next again and again all packets of open links come in the order in which they were sent; the others stay so.
func TestInOrder(t *testing.T) {
	chance := rand.New(rand.NewSource(1))
	for round := range 300 {
		nodes := 1 + chance.Intn(6)
		if round%50 == 0 {
			nodes = maxNodes
		}
		l, m := of(t, nodes), &model{nodes: nodes}
		fill(t, l, m, chance.Intn(200))
		for range chance.Intn(nodes * nodes) {
			c := toShut(chance.Intn(nodes), chance.Intn(nodes))
			_, e := c.reckon(m)
			checkCall(t, l, c, packet{}, e)
		}
		var come, stay []packet
		for _, p := range m.packets {
			if m.open(p.from, p.to) {
				come = append(come, p)
			} else {
				stay = append(stay, p)
			}
		}
		for _, want := range come {
			checkCall(t, l, toTake(l.Next()), want, api.OK)
		}
		checkNext(t, l, -1)
		check(t, l, stay...)
		l.Heal()
		for _, want := range stay {
			checkNext(t, l, 0)
			checkCall(t, l, toTake(0), want, api.OK)
		}
		check(t, l)
	}
}

// TestInOrderFull is of P11.5: with all packets that may be under way, the elder half of which was dropped, and sent anew.
func TestInOrderFull(t *testing.T) {
	l, m := of(t, 4), &model{nodes: 4}
	fill(t, l, m, maxFlight)
	for range maxFlight / 2 {
		checkOK(t, l, toDrop(0))
	}
	m.packets = m.packets[maxFlight/2:]
	fill(t, l, m, maxFlight)
	for _, want := range m.packets {
		checkNext(t, l, 0)
		checkCall(t, l, toTake(0), want, api.OK)
	}
	check(t, l)
	checkNext(t, l, -1)
}

// TestSentSo is of P11.5: a packet that is taken was sent so, but for what was spoilt; each as often as it was sent and doubled, less what was dropped.
func TestSentSo(t *testing.T) {
	chance := rand.New(rand.NewSource(2))
	for range 200 {
		nodes := 1 + chance.Intn(4)
		l := of(t, nodes)
		left := map[packet]int{}
		for i := range 100 {
			k := chance.Intn(l.Count() + 1)
			p, e := told(l.At(k))
			switch chance.Intn(5) {
			case 0, 1:
				c := toSend(chance.Intn(nodes), chance.Intn(nodes), fmt.Sprint("packet ", i%7))
				checkOK(t, l, c)
				left[packet{c.a, c.b, c.data}]++
			case 2:
				checkCall(t, l, toTake(k), p, e)
				left[p]--
			case 3:
				checkCall(t, l, toTwice(k), packet{}, e)
				left[p]++
			case 4:
				checkCall(t, l, toDrop(k), packet{}, e)
				left[p]--
			}
		}
		delete(left, packet{})
		for _, p := range packetsOf(t, l) {
			left[p]--
		}
		for p, n := range left {
			if n != 0 {
				t.Fatalf("%v: %d more were sent than came or are under way", p, n)
			}
		}
	}
}

// TestNil is of what the chapter says of a nil lane: every call of it.
func TestNil(t *testing.T) {
	var l *lane.Lane
	for _, n := range append(odd(), 0, 1, 31, maxNodes, maxFlight) {
		for _, k := range append(odd(), 0, 1, maxFlight) {
			for _, c := range append(ofAll(n), toSend(n, k, ""), toSend(n, k, "a"), toSpoil(n, k, 255), toShut(n, k), toJoin(n, k)) {
				checkCall(t, l, c, packet{}, api.ErrNil)
			}
			if l.Open(n, k) || l.Open(n, n) {
				t.Errorf("Open(%d, %d)", n, k)
			}
		}
	}
	if e := l.Send(0, 0, nil); e != api.ErrNil {
		t.Errorf("Send: %d", e)
	}
	if e := l.Send(0, 0, make([]byte, maxPacket+1)); e != api.ErrNil {
		t.Errorf("Send: %d", e)
	}
	l.Heal()
	if l.Count() != 0 || l.Next() != -1 {
		t.Errorf("Count: %d, Next: %d", l.Count(), l.Next())
	}
}

// TestMemoryIn is of P11.6: bytes aren't changed, nor the room behind their end, and may be written over behind the call.
func TestMemoryIn(t *testing.T) {
	const text = "some bytes, and room behind them"
	room := []byte(text)
	l := of(t, 2)
	for range 4 {
		if e := l.Send(0, 1, room[:10]); e != api.OK || string(room) != text {
			t.Fatalf("%d, %q", e, room)
		}
	}
	checkOK(t, l, toTwice(0), toSpoil(0, 9, 1), toSpoil(1, 0, 255), toDrop(2))
	if p, e := told(l.Take(3)); e != api.OK || p.data != text[:10] {
		t.Errorf("%v, %d", p, e)
	}
	if string(room) != text {
		t.Errorf("%q", room)
	}
	want := []packet{{0, 1, "some byter"}, {0, 1, "\x8come bytes"}, {0, 1, "some bytes"}}
	check(t, l, want...)
	for i := range room {
		room[i] = 'x'
	}
	check(t, l, want...)
}

// over writes all of a packet's bytes over, with the room behind them.
func over(p api.Packet) {
	b := p.Data[:cap(p.Data)]
	for i := range b {
		b[i] = '!'
	}
}

// TestMemoryOut is of P11.6: what At and Take answer is new memory.
func TestMemoryOut(t *testing.T) {
	for _, n := range []int{0, 1, 2, 7, 8, 9, 100, 1000, maxPacket} {
		data := strings.Repeat("z", n)
		l := of(t, 2, toSend(0, 1, data), toTwice(0), toSend(1, 0, data), toTwice(2))
		want := slices.Repeat([]packet{{0, 1, data}}, 2)
		want = append(want, packet{1, 0, data}, packet{1, 0, data})
		for k := range 4 {
			one, _ := l.At(k)
			two, _ := l.At(k)
			over(one)
			if string(two.Data) != data {
				t.Errorf("two answers share memory: %.20q", two.Data)
			}
			over(two)
			check(t, l, want...)
		}
		before, _ := l.At(0)
		if n > 0 {
			checkOK(t, l, toSpoil(0, 0, 1), toSpoil(0, n-1, 2))
		}
		if string(before.Data) != data {
			t.Errorf("an answer is changed by Spoil: %.20q", before.Data)
		}
		checkOK(t, l, toDrop(0))
		var taken []api.Packet
		for k := 2; k >= 0; k-- {
			p, e := l.Take(k)
			if e != api.OK || string(p.Data) != data {
				t.Fatalf("Take: %.20q, %d", p.Data, e)
			}
			for _, other := range taken {
				over(other)
			}
			if string(p.Data) != data {
				t.Errorf("two answers share memory: %.20q", p.Data)
			}
			over(p)
			taken = append(taken, p)
			check(t, l, want[1:k+1]...)
		}
		// What comes behind those that are gone shares no memory with them.
		checkOK(t, l, toSend(0, 1, data), toSend(1, 0, data))
		for _, p := range taken {
			over(p)
		}
		check(t, l, want[1:3]...)
	}
}

// TestGone is of the rule that no more is kept than is promised: packets that came or were lost hold no memory.
func TestGone(t *testing.T) {
	held := func() uint64 {
		var m runtime.MemStats
		runtime.GC()
		runtime.ReadMemStats(&m)
		return m.HeapAlloc
	}
	l, data := of(t, 2), make([]byte, maxPacket)
	was := held()
	for range 3 {
		for range 200 {
			if e := l.Send(0, 1, data); e != api.OK {
				t.Fatal(e)
			}
		}
		for i := range 200 {
			// By turns the last one and the first one: the list is closed up from behind and from ahead.
			if i%2 == 0 {
				checkOK(t, l, toDrop(l.Count()-1))
			} else if _, e := l.Take(l.Next()); e != api.OK {
				t.Fatal(e)
			}
		}
	}
	if now := held(); now > was+1<<20 {
		t.Errorf("%d bytes are held for %d packets", now-was, l.Count())
	}
	runtime.KeepAlive(l)
	runtime.KeepAlive(data)
}

// TestAllShort is of P11.2 to P11.4: all scripts of some calls.
func TestAllShort(t *testing.T) {
	alphabet := []call{toSend(0, 1, "x"), toSend(1, 1, "yz"), toSend(2, 0, ""), toTake(0), toTake(1), toDrop(0), toDrop(1), toTwice(0), toTwice(1), toSpoil(0, 0, 3), toSpoil(1, 1, 1), toShut(0, 1), toShut(2, 0), toJoin(1, 0), toHeal()}
	const depth = 4
	scripts := 1
	for range depth {
		scripts *= len(alphabet)
	}
	for script := range scripts {
		l, m := of(t, 3), &model{nodes: 3}
		for left := script; len(m.packets) < 2; left /= 2 {
			c := toSend(left%2, 1, "st")
			c.reckon(m)
			checkOK(t, l, c)
		}
		for range depth {
			checkModel(t, l, m, alphabet[script%len(alphabet)])
			script /= len(alphabet)
		}
		if t.Failed() {
			return
		}
	}
}

// chancyCall is a call by chance, of a lane with so many nodes and packets.
func chancyCall(chance *rand.Rand, nodes, packets int) call {
	number := func(most int) int {
		switch chance.Intn(40) {
		case 0:
			return least
		case 1:
			return greatest
		case 2:
			return -1
		}
		return chance.Intn(most + 1)
	}
	node := func() int { return number(nodes - chance.Intn(15)%2) }
	a, b, k := node(), node(), number(packets)
	switch chance.Intn(16) {
	case 0, 1, 2, 3, 4:
		data := make([]byte, chance.Intn(16)>>chance.Intn(4))
		chance.Read(data)
		return toSend(a, b, string(data))
	case 5, 6, 7:
		return toTake(k)
	case 8:
		return toDrop(k)
	case 9, 10:
		return toTwice(k)
	case 11, 12:
		return toSpoil(k, number(8), byte(chance.Intn(256)))
	case 13:
		return toShut(a, b)
	case 14:
		return toJoin(a, b)
	}
	if chance.Intn(4) > 0 {
		return toShut(a, b)
	}
	return toHeal()
}

// TestByChance is of P11.1 to P11.5: scripts of all calls, held against the model.
func TestByChance(t *testing.T) {
	chance := rand.New(rand.NewSource(3))
	for range 1500 {
		nodes := 1 + chance.Intn(5)
		l, m := of(t, nodes), &model{nodes: nodes}
		for range 120 {
			checkModel(t, l, m, chancyCall(chance, nodes, len(m.packets)))
			if t.Failed() {
				return
			}
		}
	}
}

// TestByChanceMany is of P11.1 to P11.5: scripts on a lane of all nodes that is almost full.
func TestByChanceMany(t *testing.T) {
	chance := rand.New(rand.NewSource(4))
	l, m := of(t, maxNodes), &model{nodes: maxNodes}
	fill(t, l, m, maxFlight-10)
	for i := range 20000 {
		c := chancyCall(chance, maxNodes, len(m.packets))
		want, wantErr := c.reckon(m)
		checkCall(t, l, c, want, wantErr)
		if l.Count() != len(m.packets) {
			t.Fatalf("behind %v: %d are under way, not %d", c, l.Count(), len(m.packets))
		}
		checkNext(t, l, m.next())
		if i%500 == 0 {
			checkAlike(t, l, m)
		}
		if t.Failed() {
			return
		}
	}
	checkAlike(t, l, m)
}

// TestEnds is of P1: a full lane of the longest packets.
func TestEnds(t *testing.T) {
	l, data := of(t, maxNodes), make([]byte, maxPacket)
	for k := range maxFlight / 2 {
		if e := l.Send(k%maxNodes, k/maxNodes%maxNodes, data); e != api.OK {
			t.Fatal(e)
		}
		if e := l.Twice(k); e != api.OK {
			t.Fatal(e)
		}
	}
	if e := l.Send(0, 0, data); e != api.ErrFull || l.Count() != maxFlight {
		t.Errorf("%d, %d under way", e, l.Count())
	}
	for k := maxFlight; k > 0; k-- {
		if p, e := l.Take(l.Next()); e != api.OK || len(p.Data) != maxPacket {
			t.Fatalf("%d bytes, %d", len(p.Data), e)
		}
	}
	if l.Count() != 0 || l.Next() != -1 {
		t.Errorf("%d under way, Next: %d", l.Count(), l.Next())
	}
}
