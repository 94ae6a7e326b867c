package wire_test

import (
	"bytes"
	"encoding/binary"
	"hash/crc32"
	"math"
	"math/big"
	"math/rand"
	"regexp"
	"slices"
	"strings"
	"testing"
	"unsafe"

	"signet/api"
	"signet/wire"
)

// The calls by which a part of a record is told and read.
const (
	anInt  = 'i'
	aText  = 't'
	aBool  = 'b'
	aCount = 'c'
	aList  = 'l'

	calls = "itbcl"
)

// part is what one call tells or reads.
type part struct {
	call byte
	n    int
	s    string
	b    bool
	l    []string
}

func ofInt(n int) part         { return part{call: anInt, n: n} }
func ofText(s string) part     { return part{call: aText, s: s} }
func ofBool(b bool) part       { return part{call: aBool, b: b} }
func ofCount(n int) part       { return part{call: aCount, n: n} }
func ofTexts(l ...string) part { return part{call: aList, l: l} }

func (p part) same(q part) bool {
	return p.call == q.call && p.n == q.n && p.s == q.s && p.b == q.b && slices.Equal(p.l, q.l)
}

// write tells the parts to w.
func write(w *wire.Writer, parts ...part) {
	for _, p := range parts {
		switch p.call {
		case anInt:
			w.Int(p.n)
		case aText:
			w.Text(p.s)
		case aBool:
			w.Bool(p.b)
		case aCount:
			w.Count(p.n)
		case aList:
			w.Texts(p.l...)
		}
	}
}

// read is what r reads by that call.
func read(r *wire.Reader, call byte) part {
	p := part{call: call}
	switch call {
	case anInt:
		p.n = r.Int()
	case aText:
		p.s = r.Text()
	case aBool:
		p.b = r.Bool()
	case aCount:
		p.n = r.Count()
	case aList:
		p.l = r.Texts()
	}
	return p
}

// number is a number's bytes, by the chapter's words: its digits to the base 128.
func number(n *big.Int) []byte {
	var out []byte
	base, left, digit := big.NewInt(128), new(big.Int).Set(n), new(big.Int)
	for {
		left.DivMod(left, base, digit)
		if left.Sign() == 0 {
			return append(out, byte(digit.Int64()))
		}
		out = append(out, byte(digit.Int64()+128))
	}
}

func small(n int) []byte { return number(big.NewInt(int64(n))) }

// intNumber is the number of an int, by the chapter's words.
func intNumber(n int) *big.Int {
	out := new(big.Int).Mul(big.NewInt(2), big.NewInt(int64(n)))
	if n < 0 {
		out.Neg(out).Sub(out, big.NewInt(1))
	}
	return out
}

func text(s string) []byte { return append(small(len(s)), s...) }

// told is the bytes of parts, by the chapter's words.
func told(parts ...part) []byte {
	var out []byte
	for _, p := range parts {
		switch p.call {
		case anInt:
			out = append(out, number(intNumber(p.n))...)
		case aText:
			out = append(out, text(p.s)...)
		case aBool:
			out = append(out, map[bool]byte{true: 1}[p.b])
		case aCount:
			out = append(out, small(p.n)...)
		case aList:
			out = append(out, small(len(p.l))...)
			for _, s := range p.l {
				out = append(out, text(s)...)
			}
		}
	}
	return out
}

// sum is that of chapter 2, by another program.
func sum(b []byte) uint32 { return crc32.Checksum(b, crc32.MakeTable(crc32.Castagnoli)) }

// framed is a frame that says so many bytes, that sum, and has these bytes.
func framed(n, sum uint32, b []byte) []byte {
	out := binary.BigEndian.AppendUint32(nil, n)
	return append(binary.BigEndian.AppendUint32(out, sum), b...)
}

// frame is that of b.
func frame(b []byte) []byte { return framed(uint32(len(b)), sum(b), b) }

// frameError is what NewReader answers to a frame, word by word.
func frameError(f []byte) api.Errno {
	if len(f) < 8 {
		return api.ErrEnd
	}
	n, b := int(binary.BigEndian.Uint32(f)), f[8:]
	if n > 65536 {
		return api.ErrLong
	}
	if len(b) < n {
		return api.ErrEnd
	}
	if len(b) > n {
		return api.ErrForm
	}
	if binary.BigEndian.Uint32(f[4:]) != sum(b) {
		return api.ErrSum
	}
	return api.OK
}

// The bytes, each as the rune of that number, of what begins with a number; of what may be the beginning of one and ends within it.
var (
	isNumber = regexp.MustCompile(`\A(\x00|[\x80-\xff]{0,8}[\x01-\x7f]|[\x80-\xff]{9}\x01)`)
	isCut    = regexp.MustCompile(`\A[\x80-\xff]{0,9}\z`)
)

// modelNumber reads a number by other means: what stands behind it, or the error.
func modelNumber(b []byte) (uint64, []byte, api.Errno) {
	var runes []rune
	for _, c := range b[:min(len(b), 11)] {
		runes = append(runes, rune(c))
	}
	if found := isNumber.FindString(string(runes)); found != "" {
		n, length := binary.Uvarint(b)
		if length != len([]rune(found)) {
			panic("the two ways differ")
		}
		return n, b[length:], api.OK
	}
	if isCut.MatchString(string(runes)) {
		return 0, nil, api.ErrEnd
	}
	return 0, nil, api.ErrForm
}

// modelUpTo reads a number that is at most that.
func modelUpTo(b []byte, most uint64) (uint64, []byte, api.Errno) {
	n, rest, e := modelNumber(b)
	if e == api.OK && n > most {
		return 0, nil, api.ErrForm
	}
	return n, rest, e
}

func modelText(b []byte) (string, []byte, api.Errno) {
	n, rest, e := modelUpTo(b, 65536)
	if e != api.OK {
		return "", nil, e
	}
	if uint64(len(rest)) < n {
		return "", nil, api.ErrEnd
	}
	return string(rest[:n]), rest[n:], api.OK
}

// model is what a call reads of b, by other means: what stands behind it, or the error.
func model(b []byte, call byte) (part, []byte, api.Errno) {
	none := part{call: call}
	most := map[byte]uint64{anInt: math.MaxUint64, aBool: 1, aCount: 4096, aList: 4096}
	if call == aText {
		s, rest, e := modelText(b)
		return part{call: call, s: s}, rest, e
	}
	n, rest, e := modelUpTo(b, most[call])
	if e != api.OK {
		return none, nil, e
	}
	switch call {
	case anInt:
		i, _ := binary.Varint(b)
		return ofInt(int(i)), rest, api.OK
	case aBool:
		return ofBool(n == 1), rest, api.OK
	case aCount:
		return ofCount(int(n)), rest, api.OK
	}
	l := make([]string, n)
	for i := range l {
		if l[i], rest, e = modelText(rest); e != api.OK {
			return none, nil, e
		}
	}
	return ofTexts(l...), rest, api.OK
}

// reader is one of b, framed.
func reader(t *testing.T, b []byte) *wire.Reader {
	t.Helper()
	r, e := wire.NewReader(frame(b))
	if e != api.OK || r == nil {
		t.Fatalf("NewReader of %d bytes, %.40x: %d", len(b), b, e)
	}
	return r
}

// checkDead asks whether r has that error, answers zero to all calls, and has it still.
func checkDead(t *testing.T, r *wire.Reader, want api.Errno) {
	t.Helper()
	for range 2 {
		for _, call := range []byte(calls) {
			if e := r.End(); e != want {
				t.Errorf("End: %d, not %d", e, want)
			}
			if got := read(r, call); !got.same(part{call: call}) || len(got.l) != 0 {
				t.Errorf("behind the error %d: %v", want, got)
			}
		}
	}
}

// checkEnd asks what End answers, twice, where there is no error.
func checkEnd(t *testing.T, r *wire.Reader, left int) {
	t.Helper()
	want := api.OK
	if left > 0 {
		want = api.ErrForm
	}
	for range 2 {
		if e := r.End(); e != want {
			t.Errorf("End with %d bytes left: %d", left, e)
		}
	}
}

// checkCalls holds what these calls read of b against the model, one behind the other.
func checkCalls(t *testing.T, b []byte, by ...byte) {
	t.Helper()
	r, rest := reader(t, b), b
	checkEnd(t, r, len(rest))
	for i, call := range by {
		want, behind, e := model(rest, call)
		if got := read(r, call); !got.same(want) {
			t.Errorf("%.60x by %q, at %d: %v, not %v", b, by, i, got, want)
		}
		if e != api.OK {
			checkDead(t, r, e)
			return
		}
		rest = behind
		checkEnd(t, r, len(rest))
	}
}

// checkRead asks what a call reads of b, and what error the reader has then; without one all is read.
func checkRead(t *testing.T, b []byte, want part, wantErr api.Errno) {
	t.Helper()
	r := reader(t, b)
	if got := read(r, want.call); !got.same(want) || r.End() != wantErr {
		t.Errorf("%.60x by %q: %v, %d, not %v, %d", b, want.call, got, r.End(), want, wantErr)
	}
	if wantErr != api.OK {
		checkDead(t, r, wantErr)
	}
	checkCalls(t, b, want.call, anInt)
	for _, call := range []byte(calls) {
		checkCalls(t, append(slices.Clone(b), 3, 1), want.call, call)
	}
}

// checkRefused asks whether a call reads nothing of b but that error.
func checkRefused(t *testing.T, b []byte, call byte, want api.Errno) {
	t.Helper()
	checkRead(t, b, part{call: call}, want)
}

// checkFrame asks for w's frame.
func checkFrame(t *testing.T, w *wire.Writer, b []byte, wantErr api.Errno) {
	t.Helper()
	want := frame(b)
	if wantErr != api.OK {
		want = nil
	}
	if got, e := w.Frame(); e != wantErr || !bytes.Equal(got, want) {
		t.Errorf("Frame: %.60x, %d bytes, %d, not %.60x, %d bytes, %d", got, len(got), e, want, len(want), wantErr)
	}
}

// checkParts asks whether the parts are told as b, and read from it again.
func checkParts(t *testing.T, b []byte, parts ...part) {
	t.Helper()
	w := wire.NewWriter()
	write(w, parts...)
	checkFrame(t, w, b, api.OK)
	f, _ := w.Frame()
	r, e := wire.NewReader(f)
	if e != api.OK {
		t.Fatalf("NewReader of %d bytes: %d", len(f), e)
	}
	left := len(b)
	for _, p := range parts {
		if got := read(r, p.call); !got.same(p) {
			t.Errorf("told %.60v, read %.60v", p, got)
		}
		left -= len(told(p))
		checkEnd(t, r, left)
	}
	if left == 0 {
		checkCalls(t, b, anInt)
	}
}

// TestExamples is of P8.1, P8.2 and P8.3: the chapter's examples.
func TestExamples(t *testing.T) {
	checkParts(t, []byte{10, 1, 1, 97, 1, 128, 1}, ofInt(5), ofInt(-1), ofText("a"), ofBool(true), ofCount(128))
	none, e := wire.NewWriter().Frame()
	if !bytes.Equal(none, make([]byte, 8)) || e != api.OK {
		t.Errorf("the frame of none: %x, %d", none, e)
	}
	checkParts(t, nil)
	checkRefused(t, []byte{128, 0}, anInt, api.ErrForm)
	checkRefused(t, []byte{128}, anInt, api.ErrEnd)
	checkRefused(t, []byte{5, 97}, aText, api.ErrEnd)
	checkRefused(t, []byte{2}, aBool, api.ErrForm)
}

// TestInts is of P8.1 and P8.3: ints about each power of two, of both signs, the least and the greatest one.
func TestInts(t *testing.T) {
	for n, want := range map[int][]byte{
		0: {0}, -1: {1}, 1: {2}, -2: {3}, 2: {4}, 62: {124}, 63: {126}, -63: {125}, -64: {127}, 64: {128, 1}, -65: {129, 1}, 65: {130, 1},
		8190: {252, 127}, 8191: {254, 127}, -8192: {255, 127}, 8192: {128, 128, 1}, -8193: {129, 128, 1}, 8193: {130, 128, 1},
		math.MaxInt:     {254, 255, 255, 255, 255, 255, 255, 255, 255, 1},
		math.MinInt:     {255, 255, 255, 255, 255, 255, 255, 255, 255, 1},
		math.MaxInt - 1: {252, 255, 255, 255, 255, 255, 255, 255, 255, 1},
		math.MinInt + 1: {253, 255, 255, 255, 255, 255, 255, 255, 255, 1},
		1<<62 - 1:       {254, 255, 255, 255, 255, 255, 255, 255, 127},
		-1 << 62:        {255, 255, 255, 255, 255, 255, 255, 255, 127},
		1 << 62:         {128, 128, 128, 128, 128, 128, 128, 128, 128, 1},
	} {
		checkParts(t, want, ofInt(n))
		checkRead(t, want, ofInt(n), api.OK)
	}
	var all []part
	for k := range 64 {
		for off := -3; off <= 3; off++ {
			n := int(uint64(1)<<k) + off
			all = append(all, ofInt(n), ofInt(-n), ofInt(^n))
		}
	}
	for n := -20000; n <= 20000; n++ {
		all = append(all, ofInt(n))
	}
	chance := rand.New(rand.NewSource(1))
	for range 2000 {
		all = append(all, ofInt(int(chance.Uint64()>>chance.Intn(64))))
	}
	for _, p := range all {
		want := told(p)
		if other := binary.AppendVarint(nil, int64(p.n)); !bytes.Equal(want, other) {
			t.Fatalf("the two ways differ: %x, %x", want, other)
		}
		checkParts(t, want, p)
	}
	for some := range slices.Chunk(all, 5000) {
		checkParts(t, told(some...), some...)
	}
}

// powers are the numbers about each power of two, from 0 to 2^64 - 1.
func powers() []*big.Int {
	var out []*big.Int
	for k := range uint(65) {
		for off := int64(-2); off <= 2; off++ {
			n := new(big.Int).Add(new(big.Int).Lsh(big.NewInt(1), k), big.NewInt(off))
			if n.Sign() >= 0 && n.BitLen() <= 64 {
				out = append(out, n)
			}
		}
	}
	return out
}

// TestNumbers is of P8.3: numbers of one to ten bytes, cut off behind each of them, with a last digit 0 too many, with bytes behind them; by all calls.
func TestNumbers(t *testing.T) {
	lengths := map[int]int{}
	for _, n := range powers() {
		b := number(n)
		lengths[len(b)]++
		half := int(new(big.Int).Rsh(n, 1).Uint64())
		if n.Bit(0) == 1 {
			half = -half - 1
		}
		checkRead(t, b, ofInt(half), api.OK)
		for cut := range len(b) {
			for _, call := range []byte(calls) {
				checkRefused(t, b[:cut], call, api.ErrEnd)
			}
		}
		long := slices.Clone(b)
		long[len(b)-1] |= 128
		for _, call := range []byte(calls) {
			checkCalls(t, b, call)
			for _, behind := range [][]byte{{0}, {0, 0}, {0, 1}, {128, 0}, {128, 128, 0}} {
				checkRefused(t, append(slices.Clone(long), behind...), call, api.ErrForm)
			}
		}
	}
	for length := 1; length <= 10; length++ {
		if lengths[length] == 0 {
			t.Errorf("no number of %d bytes", length)
		}
	}
}

// TestTenth is of P8.3: nine bytes that go on, and each byte as the tenth, with and without others behind it.
func TestTenth(t *testing.T) {
	for _, first := range []byte{128, 129, 200, 255} {
		nine := bytes.Repeat([]byte{first}, 9)
		for c := range 256 {
			ten := append(slices.Clone(nine), byte(c))
			for _, call := range []byte(calls) {
				if c == 1 {
					checkCalls(t, ten, call)
					continue
				}
				checkRefused(t, ten, call, api.ErrForm)
				for _, d := range []byte{0, 1, 2, 127, 128, 255} {
					checkRefused(t, append(slices.Clone(ten), d), call, api.ErrForm)
				}
			}
		}
		for _, call := range []byte(calls) {
			checkRefused(t, nine, call, api.ErrEnd)
			for _, n := range []int{10, 11, 12, 100, 65534} {
				checkRefused(t, bytes.Repeat([]byte{first}, n), call, api.ErrForm)
			}
		}
	}
	checkRead(t, []byte{128, 128, 128, 128, 128, 128, 128, 128, 128, 1}, ofInt(1<<62), api.OK)
	checkRead(t, []byte{255, 255, 255, 255, 255, 255, 255, 255, 255, 1}, ofInt(math.MinInt), api.OK)
	for _, call := range []byte("tbcl") {
		checkRefused(t, []byte{128, 128, 128, 128, 128, 128, 128, 128, 128, 1}, call, api.ErrForm)
	}
}

// TestCounts is of P8.1 and P8.3: counts about the least and the greatest one, told and read.
func TestCounts(t *testing.T) {
	for n, want := range map[int][]byte{0: {0}, 1: {1}, 2: {2}, 127: {127}, 128: {128, 1}, 129: {129, 1}, 4095: {255, 31}, 4096: {128, 32}} {
		checkParts(t, want, ofCount(n))
		checkRead(t, want, ofCount(n), api.OK)
	}
	for n := range 4097 {
		checkParts(t, small(n), ofCount(n))
	}
	for n := 4097; n < 20000; n++ {
		checkCalls(t, small(n), aCount)
	}
	for _, n := range []int{4097, 4098, 8191, 8192, 16383, 16384, 65535, 65536, 65537, 1 << 32, 1<<32 + 1, math.MaxInt} {
		checkRefused(t, small(n), aCount, api.ErrForm)
		checkRefused(t, small(n), aList, api.ErrForm)
	}
	for _, n := range powers() {
		if n.Cmp(big.NewInt(4096)) > 0 {
			checkRefused(t, number(n), aCount, api.ErrForm)
			checkRefused(t, number(n), aList, api.ErrForm)
		}
	}
	for _, n := range noCounts() {
		checkSpoilt(t, ofCount(n))
	}
}

// noCounts are ints that are no counts.
func noCounts() []int {
	return []int{-1, -2, -128, -4096, 4097, 4098, 8192, 65536, 1 << 32, 1<<32 + 5, -1 << 32, 1 << 62, math.MinInt, math.MinInt + 1, math.MaxInt}
}

// checkSpoilt asks whether a part spoils a writer, wherever it is told, and for good.
func checkSpoilt(t *testing.T, p part) {
	t.Helper()
	long := ofText(strings.Repeat("a", 70000))
	for _, ahead := range [][]part{nil, {ofInt(5)}, {ofText("abc"), ofBool(true)}, {long}, {p}, {ofText(strings.Repeat("a", 65533))}} {
		w := wire.NewWriter()
		write(w, ahead...)
		write(w, p)
		checkFrame(t, w, nil, api.ErrForm)
		checkFrame(t, w, nil, api.ErrForm)
		for _, behind := range []part{ofInt(1), ofText(""), ofBool(false), ofCount(0), ofTexts(), ofTexts("a", "b"), long, p} {
			write(w, behind)
			checkFrame(t, w, nil, api.ErrForm)
		}
		write(w, ofTexts(slices.Repeat([]string{strings.Repeat("a", 100)}, 4096)...))
		checkFrame(t, w, nil, api.ErrForm)
	}
}

// TestBools is of P8.1 and P8.3: bools 0, 1, 2, and all other numbers.
func TestBools(t *testing.T) {
	checkParts(t, []byte{0}, ofBool(false))
	checkParts(t, []byte{1}, ofBool(true))
	checkParts(t, []byte{1, 0, 0, 1, 1}, ofBool(true), ofBool(false), ofBool(false), ofBool(true), ofBool(true))
	checkRead(t, []byte{0}, ofBool(false), api.OK)
	checkRead(t, []byte{1}, ofBool(true), api.OK)
	checkRefused(t, nil, aBool, api.ErrEnd)
	checkRefused(t, []byte{129}, aBool, api.ErrEnd)
	checkRefused(t, []byte{129, 0}, aBool, api.ErrForm)
	for n := 2; n < 1000; n++ {
		checkRefused(t, small(n), aBool, api.ErrForm)
	}
	for _, n := range powers() {
		if n.BitLen() > 1 {
			checkRefused(t, number(n), aBool, api.ErrForm)
		}
	}
}

// TestTexts is of P8.1 and P8.3: texts of many lengths, of any bytes.
func TestTexts(t *testing.T) {
	checkParts(t, []byte{0}, ofText(""))
	checkParts(t, []byte{1, 97}, ofText("a"))
	checkParts(t, append([]byte{127}, strings.Repeat("x", 127)...), ofText(strings.Repeat("x", 127)))
	checkParts(t, append([]byte{128, 1}, strings.Repeat("x", 128)...), ofText(strings.Repeat("x", 128)))
	checkParts(t, append([]byte{255, 127}, strings.Repeat("x", 16383)...), ofText(strings.Repeat("x", 16383)))
	checkParts(t, append([]byte{128, 128, 1}, strings.Repeat("x", 16384)...), ofText(strings.Repeat("x", 16384)))
	var every []byte
	for c := range 256 {
		one := string([]byte{byte(c)})
		every = append(every, byte(c))
		for _, s := range []string{one, one + one, "a" + one + "b", strings.Repeat(one, 128)} {
			checkParts(t, text(s), ofText(s))
			checkRead(t, text(s), ofText(s), api.OK)
		}
		checkParts(t, append([]byte{1, byte(c), 1, byte(255 - c)}, 2), ofText(one), ofText(string([]byte{byte(255 - c)})), ofInt(1))
	}
	for _, s := range []string{"", "a", "é", "\x00", "\xff\xfe", "\u65e5\u672c", string(every), strings.Repeat(string(every), 100)} {
		checkParts(t, text(s), ofText(s))
		checkRead(t, text(s), ofText(s), api.OK)
		checkParts(t, append(text(s), text(s)...), ofText(s), ofText(s))
	}
	chance := rand.New(rand.NewSource(2))
	for n := range 600 {
		s := chancy(chance, n)
		checkParts(t, text(s), ofText(s))
		for cut := range min(n, 5) + 1 {
			checkCalls(t, text(s)[:len(text(s))-cut], aText)
			checkCalls(t, text(s)[:cut], aText)
		}
	}
}

// chancy is a text of n bytes, by chance.
func chancy(chance *rand.Rand, n int) string {
	b := make([]byte, n)
	chance.Read(b)
	return string(b)
}

// TestTextSizes is of P8.3: a text's number about 65536, with bytes behind it too few, one too few, just enough, more.
func TestTextSizes(t *testing.T) {
	for _, call := range []string{"t", "l"} {
		ahead := map[string][]byte{"t": nil, "l": {1}}[call]
		with := func(n, there int) []byte {
			return slices.Concat(ahead, small(n), bytes.Repeat([]byte{1}, there))
		}
		for _, n := range []int{65537, 65538, 131072, 1 << 32, 1<<32 + 1, math.MaxInt} {
			for _, there := range []int{0, 1, 1000, 65500} {
				checkRefused(t, with(n, there), call[0], api.ErrForm)
			}
		}
		for _, n := range powers() {
			if n.Cmp(big.NewInt(65536)) > 0 {
				checkRefused(t, append(slices.Clone(ahead), number(n)...), call[0], api.ErrForm)
				checkRefused(t, slices.Concat(ahead, number(n), []byte("abc")), call[0], api.ErrForm)
			}
		}
		for _, n := range []int{65536, 65535, 65534} {
			for _, there := range []int{0, 1, 1000, 65500} {
				checkRefused(t, with(n, there), call[0], api.ErrEnd)
			}
		}
		for _, n := range []int{1, 2, 10, 127, 128, 129, 16383, 16384, 65000} {
			checkRefused(t, with(n, 0), call[0], api.ErrEnd)
			checkRefused(t, with(n, n/2), call[0], api.ErrEnd)
			checkRefused(t, with(n, n-1), call[0], api.ErrEnd)
			ones := strings.Repeat("\x01", n)
			checkRead(t, with(n, n), map[string]part{"t": ofText(ones), "l": ofTexts(ones)}[call], api.OK)
			checkCalls(t, with(n, n+1), call[0], aBool, aBool)
		}
	}
	full := slices.Concat(small(65533), bytes.Repeat([]byte{7}, 65533))
	checkCalls(t, full, aText, anInt)
	checkParts(t, full, ofText(strings.Repeat("\x07", 65533)))
	checkCalls(t, slices.Concat(small(65534), bytes.Repeat([]byte{7}, 65533)), aText)
}

// TestLists is of P8.1 and P8.3: lists of none, of one, of many texts, of too many, and lists that are cut off.
func TestLists(t *testing.T) {
	checkParts(t, []byte{0}, ofTexts())
	checkParts(t, []byte{1, 0}, ofTexts(""))
	checkParts(t, []byte{1, 1, 97}, ofTexts("a"))
	checkParts(t, []byte{3, 1, 97, 0, 2, 98, 99}, ofTexts("a", "", "bc"))
	checkParts(t, []byte{2, 1, 97, 1, 97, 0, 1, 1, 97, 6}, ofTexts("a", "a"), ofTexts(), ofTexts("a"), ofInt(3))
	for _, n := range []int{2, 3, 127, 128, 129, 1000, 4095, 4096} {
		for _, s := range []string{"", "a", "0123456789"} {
			l := slices.Repeat([]string{s}, n)
			b := append(small(n), bytes.Repeat(text(s), n)...)
			checkParts(t, b, ofTexts(l...))
			checkRead(t, b, ofTexts(l...), api.OK)
			checkRefused(t, b[:len(b)-1], aList, api.ErrEnd)
			checkRefused(t, b[:len(small(n))], aList, api.ErrEnd)
			checkRefused(t, b[:len(b)/2], aList, api.ErrEnd)
		}
	}
	for _, n := range []int{4097, 4098, 5000, 8192, 65536, 1 << 20} {
		checkSpoilt(t, ofTexts(make([]string, n)...))
		checkRefused(t, append(small(n), make([]byte, 60000)...), aList, api.ErrForm)
	}
	three := []byte{3, 1, 97, 1, 98, 2, 99, 100}
	checkRead(t, three, ofTexts("a", "b", "cd"), api.OK)
	for cut := range len(three) {
		checkRefused(t, three[:cut], aList, api.ErrEnd)
	}
	checkRefused(t, []byte{3, 1, 97, 1, 98, 128, 0, 1, 1, 1}, aList, api.ErrForm)
	checkRefused(t, []byte{3, 1, 97, 1, 98, 129, 128, 4, 1, 1}, aList, api.ErrForm)
	checkRefused(t, []byte{3, 1, 97, 1, 98, 128}, aList, api.ErrEnd)
	checkRefused(t, []byte{3, 128, 0, 1, 98, 1, 99}, aList, api.ErrForm)
	checkRefused(t, []byte{3, 9, 97, 1, 98, 1, 99}, aList, api.ErrEnd)
}

// TestSizes is of P8.1: records of 0, 1, 65535, 65536, 65537 bytes and more, made in many ways; what is told when there are too many stands, too.
func TestSizes(t *testing.T) {
	ends := []part{ofInt(0), ofInt(64), ofInt(math.MinInt), ofInt(math.MaxInt), ofText(""), ofText("a"), ofText("abcdefghij"), ofBool(true), ofBool(false), ofCount(0), ofCount(128), ofTexts(), ofTexts(""), ofTexts("a", "b", "")}
	for room := range 14 {
		ahead := ofText(strings.Repeat("a", 65533-room))
		for _, p := range ends {
			w := wire.NewWriter()
			write(w, ahead, p)
			b := told(ahead, p)
			want := api.OK
			if len(b) > 65536 {
				want = api.ErrLong
			}
			checkFrame(t, w, b, want)
			checkFrame(t, w, b, want)
			if want == api.OK {
				checkParts(t, b, ahead, p)
				continue
			}
			for _, more := range []part{ofInt(0), ofBool(true), ofText(""), ofTexts(), ofCount(3)} {
				write(w, more)
				checkFrame(t, w, nil, api.ErrLong)
			}
			write(w, ofCount(-1))
			checkFrame(t, w, nil, api.ErrForm)
		}
	}
	for _, n := range []int{65535, 65536, 65537, 65538, 70000, 131072, 1 << 20} {
		w := wire.NewWriter()
		for range n {
			w.Bool(true)
		}
		if n <= 65536 {
			checkFrame(t, w, bytes.Repeat([]byte{1}, n), api.OK)
			continue
		}
		checkFrame(t, w, nil, api.ErrLong)
		w.Texts(make([]string, 4097)...)
		checkFrame(t, w, nil, api.ErrForm)
	}
	for _, n := range []int{65533, 65534, 65535, 65536, 65537, 131072, 1 << 24} {
		want := api.OK
		if n > 65533 {
			want = api.ErrLong
		}
		w := wire.NewWriter()
		w.Text(strings.Repeat("b", n))
		checkFrame(t, w, text(strings.Repeat("b", n)), want)
	}
	// A list that is too long in bytes, not in texts.
	for _, n := range []int{16, 17} {
		l := slices.Repeat([]string{strings.Repeat("c", 4093)}, n)
		b := told(ofTexts(l...))
		want := api.OK
		if len(b) > 65536 {
			want = api.ErrLong
		}
		w := wire.NewWriter()
		w.Texts(l...)
		checkFrame(t, w, b, want)
	}
}

// TestFrames is of P8.1: a frame twice, and more between frames.
func TestFrames(t *testing.T) {
	w := wire.NewWriter()
	var parts []part
	for _, p := range []part{ofInt(5), ofText("abc"), ofBool(true), ofTexts("x", ""), ofCount(4096), ofInt(-1), ofText(strings.Repeat("y", 300)), ofBool(false)} {
		checkFrame(t, w, told(parts...), api.OK)
		checkFrame(t, w, told(parts...), api.OK)
		write(w, p)
		parts = append(parts, p)
		checkFrame(t, w, told(parts...), api.OK)
		checkParts(t, told(parts...), parts...)
	}
	other := wire.NewWriter()
	other.Int(7)
	checkFrame(t, other, []byte{14}, api.OK)
	checkFrame(t, w, told(parts...), api.OK)
	w.Count(4097)
	checkFrame(t, w, nil, api.ErrForm)
	checkFrame(t, other, []byte{14}, api.OK)
}

// TestNil is of P8.1 and P8.3: a nil writer and a nil reader, by every call.
func TestNil(t *testing.T) {
	var w *wire.Writer
	write(w, ofInt(1), ofText("a"), ofBool(true), ofBool(false), ofCount(1), ofCount(-1), ofCount(4097), ofTexts(), ofTexts("a"), ofTexts(make([]string, 5000)...))
	checkFrame(t, w, nil, api.ErrNil)
	for _, p := range []part{ofInt(1), ofText("a"), ofBool(true), ofCount(1), ofCount(-1), ofTexts("a")} {
		write(w, p)
		checkFrame(t, w, nil, api.ErrNil)
	}
	var r *wire.Reader
	checkDead(t, r, api.ErrNil)
	for _, call := range []byte(calls) {
		if got := read(nil, call); !got.same(part{call: call}) {
			t.Errorf("a nil reader: %v", got)
		}
		checkDead(t, nil, api.ErrNil)
	}
}

// checkNew asks what NewReader answers to f, and that no reader stands beside an error.
func checkNew(t *testing.T, f []byte, want api.Errno) {
	t.Helper()
	r, e := wire.NewReader(f)
	if e != want || frameError(f) != want || (r == nil) != (want != api.OK) {
		t.Errorf("NewReader of %d bytes, %.40x: %v, %d, not %d, %d", len(f), f, r != nil, e, want, frameError(f))
	}
}

// TestNewReader is of P8.2: each error, and which one is told where several apply.
func TestNewReader(t *testing.T) {
	checkNew(t, nil, api.ErrEnd)
	for n := range 8 {
		checkNew(t, make([]byte, n), api.ErrEnd)
		checkNew(t, bytes.Repeat([]byte{255}, n), api.ErrEnd)
		checkNew(t, []byte{0, 1, 0, 1, 0, 0, 0}[:n], api.ErrEnd)
	}
	checkNew(t, make([]byte, 8), api.OK)
	checkNew(t, make([]byte, 9), api.ErrForm)
	letters := bytes.Repeat([]byte("abc"), 30000)
	for _, n := range []int{0, 1, 2, 255, 256, 257, 1000, 65535, 65536, 65537, 65538, 70000} {
		b := letters[:n]
		right := sum(b)
		for _, wrong := range []uint32{0, 1, 1 << 31, 0xffffffff} {
			for _, by := range []int{1, 2, 100, 256, 65536} {
				if n <= 65536 {
					checkNew(t, framed(uint32(max(n-by, 0)), right^wrong, letters[:max(n-by, 0)+by]), api.ErrForm)
				}
				if n+by <= 65536 {
					checkNew(t, framed(uint32(n+by), right^wrong, b), api.ErrEnd)
				} else {
					checkNew(t, framed(uint32(n+by), right^wrong, b), api.ErrLong)
				}
			}
			for _, said := range []uint32{65537, 65538, 1 << 17, 1 << 24, 1<<24 + 5, 1 << 31, 1<<31 + 65536, 0xffffffff} {
				checkNew(t, framed(said, right^wrong, b), api.ErrLong)
			}
			switch {
			case n > 65536:
				checkNew(t, framed(uint32(n), right^wrong, b), api.ErrLong)
			case wrong != 0:
				checkNew(t, framed(uint32(n), right^wrong, b), api.ErrSum)
			default:
				checkNew(t, frame(b), api.OK)
			}
		}
		for bit := range 32 {
			if n <= 65536 {
				checkNew(t, framed(uint32(n), right^1<<bit, b), api.ErrSum)
			}
			checkNew(t, framed(uint32(n)^1<<bit, right, b), frameError(framed(uint32(n)^1<<bit, right, b)))
		}
	}
	// The number and the sum have the greatest byte first.
	checkNew(t, append([]byte{0, 0, 0, 9, 0xe3, 0x06, 0x92, 0x83}, "123456789"...), api.OK)
	checkNew(t, append([]byte{0, 0, 0, 9, 0x83, 0x92, 0x06, 0xe3}, "123456789"...), api.ErrSum)
	checkNew(t, append([]byte{9, 0, 0, 0, 0xe3, 0x06, 0x92, 0x83}, "123456789"...), api.ErrLong)
}

// TestSpoiltFrames is of P8.4: frames with each byte changed to each other one, cut off at each place, with more behind.
func TestSpoiltFrames(t *testing.T) {
	chance := rand.New(rand.NewSource(3))
	frames := [][]byte{frame(nil), frame([]byte{0}), frame([]byte{255}), frame(told(ofInt(5), ofInt(-1), ofText("a"), ofBool(true), ofCount(128))), frame(told(ofTexts("abc", "", "d"), ofInt(math.MinInt))), frame([]byte(chancy(chance, 100))), frame(make([]byte, 300))}
	for _, f := range frames {
		checkNew(t, f, api.OK)
		for i := range f {
			was := f[i]
			for c := range 256 {
				if byte(c) == was {
					continue
				}
				f[i] = byte(c)
				want := frameError(f)
				if want == api.OK {
					t.Fatalf("byte %d changed from %d to %d isn't to be seen", i, was, c)
				}
				checkNew(t, f, want)
			}
			f[i] = was
			checkNew(t, f[:i], api.ErrEnd)
		}
		for c := range 256 {
			checkNew(t, append(slices.Clone(f), byte(c)), api.ErrForm)
		}
		for _, more := range []int{2, 8, 1000, 65536} {
			checkNew(t, append(slices.Clone(f), make([]byte, more)...), api.ErrForm)
		}
		checkNew(t, append(slices.Clone(f), f...), api.ErrForm)
		checkNew(t, f, api.OK)
	}
	full := frame([]byte(chancy(chance, 65536)))
	for range 300 {
		i := chance.Intn(len(full))
		full[i] ^= 16
		checkNew(t, full, frameError(full))
		full[i] ^= 16
		checkNew(t, full[:i], api.ErrEnd)
	}
	checkNew(t, full, api.OK)
	checkNew(t, append(full, 0), api.ErrForm)
}

// TestShort is of P8.3: all records of a few meaning bytes, by each call again and again, and by two in turn.
func TestShort(t *testing.T) {
	var records [][]byte
	last := [][]byte{nil}
	for range 5 {
		records = append(records, last...)
		var longer [][]byte
		for _, b := range last {
			for _, c := range []byte{0, 1, 2, 3, 127, 128, 129, 255} {
				longer = append(longer, append(slices.Clone(b), c))
			}
		}
		last = longer
	}
	for _, b := range records {
		for i := range len(calls) {
			for j := range len(calls) {
				if len(b) < 4 || i == j || j == (i+1)%len(calls) {
					checkCalls(t, b, calls[i], calls[j], calls[i], calls[j], calls[i], calls[j])
				}
			}
		}
	}
}

// TestEachByte is of P8.3: each byte, and each two bytes, by each call.
func TestEachByte(t *testing.T) {
	for c := range 256 {
		for _, call := range []byte(calls) {
			checkCalls(t, []byte{byte(c)}, call, call)
			for d := range 256 {
				checkCalls(t, []byte{byte(c), byte(d)}, call, call)
			}
		}
	}
}

// chancyPart is a part by chance.
func chancyPart(chance *rand.Rand) part {
	switch calls[chance.Intn(len(calls))] {
	case anInt:
		return ofInt(int(chance.Uint64()) >> chance.Intn(64))
	case aText:
		return ofText(chancy(chance, chance.Intn(300)>>chance.Intn(9)))
	case aBool:
		return ofBool(chance.Intn(2) == 1)
	case aCount:
		return ofCount(chance.Intn(4097) >> chance.Intn(12))
	}
	l := make([]string, chance.Intn(40)>>chance.Intn(6))
	for i := range l {
		l[i] = chancy(chance, chance.Intn(20))
	}
	return ofTexts(l...)
}

// TestByChance is of P8.4: what is written is read by the same calls, and nothing is left; cut off, changed or read by other calls it answers as the model.
func TestByChance(t *testing.T) {
	chance := rand.New(rand.NewSource(4))
	for range 2000 {
		parts := make([]part, chance.Intn(30))
		var by, other []byte
		for i := range parts {
			parts[i] = chancyPart(chance)
			by = append(by, parts[i].call)
			other = append(other, calls[chance.Intn(len(calls))])
		}
		b := told(parts...)
		checkParts(t, b, parts...)
		checkCalls(t, b, append(by, anInt)...)
		checkCalls(t, b, other...)
		checkCalls(t, b[:chance.Intn(len(b)+1)], append(by, anInt)...)
		if len(b) > 0 {
			b[chance.Intn(len(b))] = byte(chance.Intn(256))
		}
		checkCalls(t, b, append(by, by...)...)
	}
	for range 5000 {
		b := []byte(chancy(chance, chance.Intn(40)))
		for i := range b {
			b[i] >>= chance.Intn(8)
		}
		var by []byte
		for range 20 {
			by = append(by, calls[chance.Intn(len(calls))])
		}
		checkCalls(t, b, by...)
	}
}

// TestFirstError is of P8.3: the first error stays, whatever error would come next.
func TestFirstError(t *testing.T) {
	for _, c := range []struct {
		b    []byte
		call byte
		want api.Errno
	}{
		{[]byte{2, 128}, aBool, api.ErrForm},
		{[]byte{128, 0, 128}, anInt, api.ErrForm},
		{[]byte{129, 32, 1}, aCount, api.ErrForm},
		{[]byte{129, 128, 4, 1}, aText, api.ErrForm},
		{[]byte{129, 32, 0, 0}, aList, api.ErrForm},
		{[]byte{5, 2, 2}, aText, api.ErrEnd},
		{[]byte{2, 1, 2, 5, 2, 2}, aList, api.ErrEnd},
		{[]byte{128}, aBool, api.ErrEnd},
		{nil, aCount, api.ErrEnd},
	} {
		checkRefused(t, c.b, c.call, c.want)
		r := reader(t, append([]byte{3, 1, 9}, c.b...))
		if r.Int() != -2 || r.Text() != "\x09" {
			t.Errorf("ahead of %x", c.b)
		}
		read(r, c.call)
		checkDead(t, r, c.want)
	}
}

// TestEndLeft is of P8.3: End with bytes left tells so, and is no error that the reader has: what is left is read behind it.
func TestEndLeft(t *testing.T) {
	r := reader(t, []byte{10, 1, 97, 1})
	for _, call := range []byte("itb") {
		if r.End() != api.ErrForm {
			t.Errorf("End ahead of %q: %d", call, r.End())
		}
		if got := read(r, call); got.same(part{call: call}) {
			t.Errorf("behind End: %v", got)
		}
	}
	if r.End() != api.OK {
		t.Errorf("End: %d", r.End())
	}
	r.Int()
	checkDead(t, r, api.ErrEnd)
}

// shared tells whether two texts share memory.
func shared(a, b string) bool {
	if len(a) < 2 || len(b) < 2 { // texts of one byte may be the language's own
		return false
	}
	one, two := uintptr(unsafe.Pointer(unsafe.StringData(a))), uintptr(unsafe.Pointer(unsafe.StringData(b)))
	return one < two+uintptr(len(b)) && two < one+uintptr(len(a))
}

// TestReaderMemory is of P8.2 and P8.5: a frame isn't changed, may be written over behind the call, and texts that are read are memory of their own.
func TestReaderMemory(t *testing.T) {
	parts := []part{ofInt(77), ofText("first text"), ofTexts("second text", "", "third text"), ofText("first text"), ofCount(300), ofBool(true)}
	f := frame(told(parts...))
	room := append(slices.Clone(f), "room behind the end"...)
	was := slices.Clone(room)
	in := room[:len(f)]
	one, e := wire.NewReader(in)
	two, _ := wire.NewReader(in)
	if e != api.OK || !bytes.Equal(room, was) {
		t.Fatalf("NewReader: %d, %x, not %x", e, room, was)
	}
	for i := range room {
		room[i] = 'x'
	}
	whole := unsafe.String(&room[0], len(room))
	var texts []string
	for _, p := range parts {
		for _, r := range []*wire.Reader{one, two} {
			got := read(r, p.call)
			if !got.same(p) {
				t.Errorf("%v, not %v", got, p)
			}
			texts = append(append(texts, got.s), slices.Clone(got.l)...)
			for i := range got.l {
				got.l[i] = "changed"
			}
			_ = append(got.l, "more")
		}
	}
	if one.End() != api.OK || two.End() != api.OK {
		t.Errorf("End: %d, %d", one.End(), two.End())
	}
	for i, s := range texts {
		if shared(s, whole) {
			t.Errorf("%q is in the frame", s)
		}
		for _, other := range texts[:i] {
			if shared(s, other) {
				t.Errorf("%q and %q share memory", s, other)
			}
		}
	}
	bad := framed(5, 0, []byte("abcde"))
	was = slices.Clone(bad)
	wire.NewReader(bad)
	if !bytes.Equal(bad, was) {
		t.Errorf("%x was changed to %x", was, bad)
	}
}

// TestWriterMemory is of P8.1 and P8.5: texts and lists aren't changed or kept; frames of one writer share no memory, with one another and with the writer.
func TestWriterMemory(t *testing.T) {
	memory := []byte("some text that is handed in")
	was := slices.Clone(memory)
	s := unsafe.String(&memory[0], len(memory))
	list := []string{s, s[:4], "c", "room", "room"}
	w := wire.NewWriter()
	w.Text(s)
	w.Texts(list[:3]...)
	if !bytes.Equal(memory, was) || !slices.Equal(list, []string{s, s[:4], "c", "room", "room"}) {
		t.Fatalf("%q, %q were changed", memory, list)
	}
	for i := range memory {
		memory[i] = 'x'
	}
	for i := range list {
		list[i] = "changed"
	}
	b := told(ofText(string(was)), ofTexts(string(was), string(was[:4]), "c"))
	checkFrame(t, w, b, api.OK)
	one, _ := w.Frame()
	two, _ := w.Frame()
	for i := range one {
		one[i] = 'y'
	}
	_ = append(one, "behind the end"...)
	if !bytes.Equal(two, frame(b)) {
		t.Errorf("a frame changes with another one: %x", two)
	}
	for i := range two {
		two[i] = 'z'
	}
	two = append(two[:8], 'z', 'z')
	checkFrame(t, w, b, api.OK)
	w.Int(3)
	b = append(b, 6)
	for i, c := range one {
		if c != 'y' {
			t.Fatalf("a frame changes with what is written: %d is %d", i, c)
		}
	}
	checkFrame(t, w, b, api.OK)
	empty := wire.NewWriter()
	none, _ := empty.Frame()
	none[0] = 9
	_ = append(none, 1, 2, 3)
	checkFrame(t, empty, nil, api.OK)
	empty.Int(1)
	checkFrame(t, empty, []byte{2}, api.OK)
}

// TestEnds is of P1: huge numbers, texts and lists are answered.
func TestEnds(t *testing.T) {
	w := wire.NewWriter()
	w.Text(strings.Repeat("a", 1<<26))
	checkFrame(t, w, nil, api.ErrLong)
	w.Texts(slices.Repeat([]string{"a"}, 1<<22)...)
	checkFrame(t, w, nil, api.ErrForm)
	w = wire.NewWriter()
	w.Texts(slices.Repeat([]string{strings.Repeat("a", 1<<20)}, 4096)...)
	checkFrame(t, w, nil, api.ErrLong)
	for range 1 << 20 {
		w.Int(math.MinInt)
	}
	checkFrame(t, w, nil, api.ErrLong)
	huge := make([]byte, 1<<26)
	checkNew(t, huge, api.ErrForm)
	binary.BigEndian.PutUint32(huge, 1<<26-8)
	checkNew(t, huge, api.ErrLong)
	r := reader(t, make([]byte, 65536))
	for range 65536 {
		r.Int()
	}
	checkEnd(t, r, 0)
	r.Int()
	checkDead(t, r, api.ErrEnd)
}
