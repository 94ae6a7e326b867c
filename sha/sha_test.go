package sha_test

import (
	"bytes"
	"crypto/hmac"
	"crypto/sha256"
	"encoding/hex"
	"math/rand"
	"slices"
	"strings"
	"testing"

	"signet/sha"
)

// other is the digest by another program.
func other(b []byte) sha.Digest { return sha256.Sum256(b) }

// otherMac is the keyed digest by another program.
func otherMac(key, b []byte) sha.Digest {
	h := hmac.New(sha256.New, key)
	h.Write(b)
	return sha.Digest(h.Sum(nil))
}

// row is a row of n bytes by chance.
func row(chance *rand.Rand, n int) []byte {
	b := make([]byte, n)
	chance.Read(b)
	return b
}

// rows are rows of every length below 700 and some longer ones: by chance, of zeros alone, of ones alone, of the byte 128 with which they are padded.
func rows() [][]byte {
	chance := rand.New(rand.NewSource(1))
	var out [][]byte
	add := func(n int) {
		out = append(out, row(chance, n), make([]byte, n), bytes.Repeat([]byte{255}, n), bytes.Repeat([]byte{128}, n))
	}
	for n := range 700 {
		add(n)
	}
	for _, n := range []int{1023, 1024, 1025, 4095, 4096, 4151, 4152, 8191, 8192, 8193, 65535, 65536, 65537} {
		add(n)
	}
	return out
}

// edges are the lengths about which a block is full, or its rest is too small for the length.
func edges() []int {
	return []int{0, 1, 3, 4, 8, 54, 55, 56, 57, 62, 63, 64, 65, 66, 118, 119, 120, 121, 127, 128, 129, 183, 184, 191, 192, 193}
}

// check holds a digest against want.
func check(t *testing.T, what string, got, want sha.Digest) {
	t.Helper()
	if got != want {
		t.Errorf("%q: %x, not %x", what, got[:], want[:])
	}
}

// digest is what is written as s, by sixteen, with or without gaps.
func digest(t *testing.T, s string) sha.Digest {
	t.Helper()
	b, err := hex.DecodeString(strings.ReplaceAll(s, " ", ""))
	if err != nil || len(b) != 32 {
		t.Fatalf("%q is no digest", s)
	}
	return sha.Digest(b)
}

// parted is b in parts of at most n bytes each.
func parted(b []byte, n int) [][]byte { return slices.Collect(slices.Chunk(b, n)) }

// TestExamples is of P3.1: the chapter's examples and digests that are known.
func TestExamples(t *testing.T) {
	none := "e3b0c442 98fc1c14 9afbf4c8 996fb924 27ae41e4 649b934c a495991b 7852b855"
	for _, c := range []struct{ b, want string }{
		{"", none},
		{"abc", "ba7816bf 8f01cfea 414140de 5dae2223 b00361a3 96177a9c b410ff61 f20015ad"},
		{"abcdbcdecdefdefgefghfghighijhijkijkljklmklmnlmnomnopnopq", "248d6a61 d20638b8 e5c02693 0c3e6039 a33ce459 64ff2167 f6ecedd4 19db06c1"},
		{"abcdefghbcdefghicdefghijdefghijkefghijklfghijklmghijklmnhijklmnoijklmnopjklmnopqklmnopqrlmnopqrsmnopqrstnopqrstu", "cf5b16a7 78af8380 036ce59e 7b049237 0b249b11 e8f07a51 afac4503 7afee9d1"},
		{strings.Repeat("a", 1000000), "cdc76e5c 9914fb92 81a1c7e2 84d73e67 f1809a48 a497200e 046d39cc c7112cd0"},
		{"\xbd", "68325720 aabd7c82 f30f554b 313d0570 c95accbb 7dc4b5aa e11204c0 8ffe732b"},
		{"\x00", "6e340b9c ffb37a98 9ca544e6 bb780a2c 78901d3f b3373876 8511a306 17afa01d"},
	} {
		check(t, "Sum of "+c.b[:min(len(c.b), 20)], sha.Sum([]byte(c.b)), digest(t, c.want))
		check(t, "All of "+c.b[:min(len(c.b), 20)], sha.All([]byte(c.b)), digest(t, c.want))
	}
	check(t, "Sum of nil", sha.Sum(nil), digest(t, none))
	check(t, "All of no parts", sha.All(), digest(t, none))
	check(t, "All of no list", sha.All([][]byte(nil)...), digest(t, none))
	check(t, "All of empty parts", sha.All(nil, []byte{}, nil), digest(t, none))
	check(t, "All of a, bc", sha.All([]byte("a"), []byte("bc")), sha.Sum([]byte("abc")))
}

// TestMacExamples is of P3.1: the chapter's example and keyed digests that are known.
func TestMacExamples(t *testing.T) {
	jefe := "5bdcc146 bf60754e 6a042426 089575c7 5a003f08 9d273983 9dec58b9 64ec3843"
	for _, c := range []struct{ key, b, want string }{
		{"Jefe", "what do ya want for nothing?", jefe},
		{"", "", "b613679a 0814d9ec 772f95d7 78c35fc5 ff1697c4 93715653 c6c71214 4292c5ad"},
		{strings.Repeat("\x0b", 20), "Hi There", "b0344c61 d8db3853 5ca8afce af0bf12b 881dc200 c9833da7 26e9376c 2e32cff7"},
		{strings.Repeat("\xaa", 20), strings.Repeat("\xdd", 50), "773ea91e 36800e46 854db8eb d09181a7 2959098b 3ef8c122 d9635514 ced565fe"},
		{strings.Repeat("\xaa", 131), "Test Using Larger Than Block-Size Key - Hash Key First", "60e43159 1ee0b67f 0d8a26aa cbf5b77f 8e0bc621 3728c514 0546040f 0ee37f54"},
		{strings.Repeat("\xaa", 131), "This is a test using a larger than block-size key and a larger than block-size data. The key needs to be hashed before being used by the HMAC algorithm.", "9b09ffa7 1b942fcb 27635fbc d5b0e944 bfdc6364 4f071393 8a7f5153 5c3a35e2"},
	} {
		check(t, "Mac of "+c.b, sha.Mac([]byte(c.key), []byte(c.b)), digest(t, c.want))
	}
	check(t, "Mac in parts", sha.Mac([]byte("Jefe"), []byte("what do ya want "), nil, []byte("for nothing?")), digest(t, jefe))
	check(t, "Mac of the other order", sha.Mac([]byte("Jefe"), []byte("for nothing?"), []byte("what do ya want ")), otherMac([]byte("Jefe"), []byte("for nothing?what do ya want ")))
}

// TestRows is of P3.1: rows of many lengths, held against another program.
func TestRows(t *testing.T) {
	for _, b := range rows() {
		want := other(b)
		if got := sha.Sum(b); got != want {
			t.Errorf("Sum of %d bytes, %.20q: %x, not %x", len(b), b, got, want)
		}
		if got := sha.All(b); got != want {
			t.Errorf("All of %d bytes, %.20q: %x, not %x", len(b), b, got, want)
		}
	}
}

// TestBits is of P3.1: each bit of a row tells, at each place of it.
func TestBits(t *testing.T) {
	for _, n := range edges() {
		b := row(rand.New(rand.NewSource(2)), n)
		for i := range 8 * n {
			b[i/8] ^= 1 << (i % 8)
			if sha.Sum(b) != other(b) {
				t.Errorf("%d bytes, another bit %d: %x, not %x", n, i, sha.Sum(b), other(b))
			}
			b[i/8] ^= 1 << (i % 8)
		}
	}
}

// TestMac is of P3.1: keys of every length about a block's and of longer ones, none among them, rows of every length.
func TestMac(t *testing.T) {
	chance := rand.New(rand.NewSource(3))
	for n := range 270 {
		for _, key := range [][]byte{row(chance, n), make([]byte, n), bytes.Repeat([]byte{0x36}, n), bytes.Repeat([]byte{0x5c}, n), bytes.Repeat([]byte{255}, n)} {
			for _, long := range edges() {
				b := row(chance, long)
				if got, want := sha.Mac(key, b), otherMac(key, b); got != want {
					t.Errorf("Mac by %d bytes of %d: %x, not %x", n, long, got, want)
				}
			}
		}
	}
	for _, b := range rows() {
		for _, n := range []int{0, 1, 32, 63, 64, 65, 128, 1000} {
			key := row(chance, n)
			if got, want := sha.Mac(key, b), otherMac(key, b); got != want {
				t.Errorf("Mac by %d bytes of %d: %x, not %x", n, len(b), got, want)
			}
		}
	}
}

// TestMacKeys is of P3.1: a key stands for the same key with bytes 0 behind it up to a block, a longer one for its digest, and no longer one for itself cut off.
func TestMacKeys(t *testing.T) {
	chance := rand.New(rand.NewSource(4))
	b := []byte("a row")
	check(t, "no key and an empty one", sha.Mac(nil, b), sha.Mac([]byte{}, b))
	for n := range 65 {
		key := row(chance, n)
		filled := append(slices.Clone(key), make([]byte, 64-n)...)
		check(t, "a filled key", sha.Mac(filled, b), sha.Mac(key, b))
	}
	for n := 65; n < 200; n++ {
		key := row(chance, n)
		short := sha.Sum(key)
		check(t, "a long key", sha.Mac(key, b), sha.Mac(short[:], b))
		if sha.Mac(key, b) == sha.Mac(key[:64], b) {
			t.Errorf("a key of %d bytes is cut off", n)
		}
	}
	check(t, "no parts", sha.Mac([]byte("k")), otherMac([]byte("k"), nil))
	check(t, "no key, no parts", sha.Mac(nil), otherMac(nil, nil))
	check(t, "empty parts", sha.Mac([]byte("k"), nil, []byte{}), otherMac([]byte("k"), nil))
}

// TestHash is of P3.2: a hash is told rows in parts of many lengths, and says at each part what all of them come to, and how many bytes they are.
func TestHash(t *testing.T) {
	b := row(rand.New(rand.NewSource(5)), 1200)
	for n := 1; n <= 200; n++ {
		h := sha.New()
		for i := 0; i < len(b); i += n {
			if got := h.Sum(); got != other(b[:i]) || h.Len() != i {
				t.Fatalf("told %d bytes by %d: %x, Len %d", i, n, got, h.Len())
			}
			h.Write(b[i:min(i+n, len(b))])
		}
		if got := h.Sum(); got != other(b) || h.Len() != len(b) {
			t.Fatalf("told %d bytes by %d: %x, Len %d", len(b), n, got, h.Len())
		}
	}
}

// TestHashNew is of P3.2: a hash that was told nothing, or nothing but empty parts; a zero one likewise.
func TestHashNew(t *testing.T) {
	for _, h := range []*sha.Hash{sha.New(), new(sha.Hash)} {
		for range 3 {
			if h.Sum() != other(nil) || h.Len() != 0 {
				t.Errorf("told nothing: %x, %d", h.Sum(), h.Len())
			}
			h.Write(nil)
			h.Write([]byte{})
		}
		h.Write([]byte("ab"))
		h.Write(nil)
		h.Write([]byte("c"))
		h.Write([]byte{})
		if h.Sum() != other([]byte("abc")) || h.Len() != 3 {
			t.Errorf("told abc: %x, %d", h.Sum(), h.Len())
		}
	}
}

// TestHashSumAgain is of P3.2: a hash that is asked for its digest, once or often, goes on as if it were not.
func TestHashSumAgain(t *testing.T) {
	chance := rand.New(rand.NewSource(6))
	for _, one := range edges() {
		for _, two := range edges() {
			a, b := row(chance, one), row(chance, two)
			h := sha.New()
			h.Write(a)
			for range 3 {
				if h.Sum() != other(a) || h.Len() != one {
					t.Fatalf("told %d bytes: %x, Len %d", one, h.Sum(), h.Len())
				}
			}
			h.Write(b)
			if h.Sum() != other(slices.Concat(a, b)) || h.Len() != one+two {
				t.Fatalf("told %d bytes and then %d: %x, Len %d", one, two, h.Sum(), h.Len())
			}
		}
	}
}

// TestHashesApart is of P3.2: hashes side by side, each told its own, and a copy of one.
func TestHashesApart(t *testing.T) {
	chance := rand.New(rand.NewSource(7))
	a, b := sha.New(), sha.New()
	var toldA, toldB []byte
	for range 300 {
		x, y := row(chance, chance.Intn(150)), row(chance, chance.Intn(150))
		a.Write(x)
		b.Write(y)
		toldA, toldB = append(toldA, x...), append(toldB, y...)
		if a.Sum() != other(toldA) || b.Sum() != other(toldB) || a.Len() != len(toldA) || b.Len() != len(toldB) {
			t.Fatalf("two hashes, told %d and %d bytes: %x, %x", len(toldA), len(toldB), a.Sum(), b.Sum())
		}
		sha.Sum(y)
		sha.Mac(x, y)
	}
	c := *a
	a.Write([]byte("more"))
	c.Write([]byte("else"))
	if a.Sum() != other(append(slices.Clone(toldA), "more"...)) || c.Sum() != other(append(slices.Clone(toldA), "else"...)) {
		t.Error("a hash and its copy hang together")
	}
}

// TestHashNil is of P3.2.
func TestHashNil(t *testing.T) {
	var h *sha.Hash
	for range 3 {
		if h.Sum() != other(nil) || h.Len() != 0 {
			t.Errorf("a nil hash: %x, %d", h.Sum(), h.Len())
		}
		h.Write([]byte("bytes"))
		h.Write(nil)
		h.Write(make([]byte, 200))
	}
	if h.Sum() != sha.New().Sum() || sha.New().Sum() != other(nil) {
		t.Error("what a nil hash is told, a new one knows")
	}
}

// checkParts holds what parts come to, in All, in Mac and told one by one, against what the whole comes to.
func checkParts(t *testing.T, parts ...[]byte) {
	t.Helper()
	whole, key := slices.Concat(parts...), []byte("a key")
	h := sha.New()
	for _, p := range parts {
		h.Write(p)
	}
	want := other(whole)
	if sha.All(parts...) != want || h.Sum() != want || h.Len() != len(whole) {
		t.Fatalf("%d parts of %d bytes: All %x, Sum %x, Len %d, not %x", len(parts), len(whole), sha.All(parts...), h.Sum(), h.Len(), want)
	}
	if got := sha.Mac(key, parts...); got != otherMac(key, whole) {
		t.Fatalf("%d parts of %d bytes: Mac %x, not %x", len(parts), len(whole), got, otherMac(key, whole))
	}
}

// TestParts is of P3.3: rows parted in two anywhere, in three about the edges, in parts of as many bytes, in parts by chance, with empty ones among them.
func TestParts(t *testing.T) {
	chance := rand.New(rand.NewSource(8))
	checkParts(t)
	checkParts(t, nil, nil)
	for n := range 270 {
		b := row(chance, n)
		for at := range n + 1 {
			checkParts(t, b[:at], b[at:])
		}
		for wide := 1; wide <= 70; wide++ {
			checkParts(t, parted(b, wide)...)
		}
	}
	for _, one := range edges() {
		for _, two := range edges() {
			for _, three := range edges() {
				checkParts(t, row(chance, one), row(chance, two), row(chance, three))
			}
		}
	}
	for range 500 {
		var parts [][]byte
		for range chance.Intn(30) {
			parts = append(parts, row(chance, max(0, chance.Intn(150)-30)))
		}
		checkParts(t, parts...)
	}
}

// TestSameParts is of P3.3: one row handed in more than once, rows that overlap, the key among the parts.
func TestSameParts(t *testing.T) {
	b := row(rand.New(rand.NewSource(9)), 300)
	for n := range 150 {
		p := b[:n]
		checkParts(t, p, p, p)
		checkParts(t, b[n:], b, b[n/2:n])
		if sha.Mac(p, p, p) != otherMac(p, slices.Concat(p, p)) {
			t.Errorf("a key of %d bytes that is also told", n)
		}
	}
}

// TestNothingChanged is of P3.3: what is handed in stays, the room behind its end and the list of parts too; asked again, the answer is the same.
func TestNothingChanged(t *testing.T) {
	room := row(rand.New(rand.NewSource(10)), 600)
	was := slices.Clone(room)
	for n := range 250 {
		key, part, rest := room[20:20+n], room[300:300+n], room[300+n:560]
		list := [][]byte{part, nil, rest, key}
		h := sha.New()
		ask := func() [4]sha.Digest {
			h.Write(part)
			return [4]sha.Digest{sha.Sum(part), sha.All(list[:2]...), sha.Mac(key, list[:3]...), sha.Mac(part)}
		}
		if ask() != ask() {
			t.Fatalf("%d bytes: another answer to the same", n)
		}
		h.Sum()
		if !bytes.Equal(room, was) {
			t.Fatalf("%d bytes were changed", n)
		}
		same := func(a, b []byte) bool { return len(a) == len(b) && (len(a) == 0 || &a[0] == &b[0]) }
		if !same(list[0], part) || list[1] != nil || !same(list[2], rest) || !same(list[3], key) {
			t.Fatalf("%d bytes: the list of parts was changed", n)
		}
	}
}

// TestNothingKept is of P3.3: bytes and lists that are written over behind a call don't tell any more.
func TestNothingKept(t *testing.T) {
	chance := rand.New(rand.NewSource(11))
	for n := range 200 {
		b := row(chance, n)
		scratch := slices.Clone(b)
		h := sha.New()
		h.Write(scratch)
		clear(scratch)
		if h.Sum() != other(b) {
			t.Fatalf("%d bytes that were written over tell", n)
		}
		copy(scratch, b)
		h.Write(scratch)
		chance.Read(scratch)
		if h.Sum() != other(slices.Concat(b, b)) || h.Len() != 2*n {
			t.Fatalf("twice %d bytes that were written over tell", n)
		}
		key, list := slices.Clone(b), [][]byte{slices.Clone(b), slices.Clone(b)}
		sha.Mac(key, list...)
		sha.All(list...)
		sha.Sum(key)
		clear(key)
		chance.Read(list[0])
		list[1] = nil
		if sha.Mac(key, list...) != otherMac(make([]byte, n), list[0]) || sha.All(list...) != other(list[0]) || sha.Sum(key) != other(make([]byte, n)) {
			t.Fatalf("%d bytes of an earlier call tell", n)
		}
	}
}

// TestNewMemory is of P3.3: an answer that is written over changes no other, and no hash.
func TestNewMemory(t *testing.T) {
	h := sha.New()
	h.Write([]byte("abc"))
	one, two := h.Sum(), sha.Sum([]byte("abc"))
	clear(one[:])
	if two != other([]byte("abc")) || h.Sum() != two || sha.All([]byte("abc")) != two {
		t.Error("answers share memory")
	}
}

// TestEnds is of P1: a row of many bytes is answered, and many empty parts.
func TestEnds(t *testing.T) {
	long := row(rand.New(rand.NewSource(12)), 1<<24)
	check(t, "Sum of a long row", sha.Sum(long), other(long))
	check(t, "Mac by a long key", sha.Mac(long, long[:5]), otherMac(long, long[:5]))
	check(t, "All of many parts", sha.All(make([][]byte, 1<<20)...), other(nil))
}

// TestManyBits is of P3.1 and P3.2: so many bytes that their bits aren't told by 32 bits.
func TestManyBits(t *testing.T) {
	part := row(rand.New(rand.NewSource(13)), 1<<20)
	h, o := sha.New(), sha256.New()
	for range 513 {
		h.Write(part)
		o.Write(part)
	}
	check(t, "Sum of many bytes", h.Sum(), sha.Digest(o.Sum(nil)))
	if h.Len() != 513<<20 {
		t.Errorf("Len of many bytes: %d", h.Len())
	}
}
