package crc_test

import (
	"bytes"
	"hash/crc32"
	"math/bits"
	"math/rand"
	"slices"
	"testing"

	"signet/crc"
)

// shifted is a sum, shifted as the chapter's words say it.
func shifted(sum uint32) uint32 {
	half := sum / 2
	if sum%2 == 1 {
		return half ^ 0x82f63b78
	}
	return half
}

// told is More, bit for bit as P2.1 says it.
func told(sum uint32, b []byte) uint32 {
	sum ^= 0xffffffff
	for _, c := range b {
		sum ^= uint32(c)
		for range 8 {
			sum = shifted(sum)
		}
	}
	return sum ^ 0xffffffff
}

// other is the sum by another program.
func other(b []byte) uint32 {
	return crc32.Checksum(b, crc32.MakeTable(crc32.Castagnoli))
}

// sums are sums to go on from: the least, the greatest, each bit alone, each bit missing, some by chance.
func sums() []uint32 {
	out := []uint32{0, 1, 7, 0x7fffffff, 0xfffffffe, 0xffffffff, 0x82f63b78, 0xe3069283}
	for i := range 32 {
		out = append(out, 1<<i, ^(uint32(1) << i))
	}
	chance := rand.New(rand.NewSource(1))
	for range 50 {
		out = append(out, chance.Uint32())
	}
	return out
}

// row is a row of n bytes by chance.
func row(chance *rand.Rand, n int) []byte {
	b := make([]byte, n)
	chance.Read(b)
	return b
}

// rows are rows of every length below 300 and some longer ones: by chance, of zeros alone, of ones alone.
func rows() [][]byte {
	chance := rand.New(rand.NewSource(2))
	var out [][]byte
	for n := range 300 {
		out = append(out, row(chance, n), make([]byte, n), bytes.Repeat([]byte{255}, n))
	}
	for _, n := range []int{1023, 1024, 1025, 4096, 65537} {
		out = append(out, row(chance, n), make([]byte, n), bytes.Repeat([]byte{255}, n))
	}
	return out
}

// checkSum holds the sum of b, told at once, against want.
func checkSum(t *testing.T, b []byte, want uint32) {
	t.Helper()
	if got := crc.Sum(b); got != want {
		t.Errorf("Sum of %d bytes, %.20q: %08x, not %08x", len(b), b, got, want)
	}
}

// TestExamples is of P2.1: the chapter's examples and sums that are known.
func TestExamples(t *testing.T) {
	checkSum(t, nil, 0)
	checkSum(t, []byte{}, 0)
	checkSum(t, []byte("123456789"), 0xe3069283)
	checkSum(t, []byte{0}, 0x527d5351)
	if got := crc.More(crc.Sum([]byte("1234")), []byte("56789")); got != 0xe3069283 {
		t.Errorf("More of 1234 and 56789: %08x", got)
	}
	checkSum(t, make([]byte, 32), 0x8a9136aa)
	checkSum(t, bytes.Repeat([]byte{255}, 32), 0x62a8ab43)
	up := make([]byte, 32)
	for i := range up {
		up[i] = byte(i)
	}
	checkSum(t, up, 0x46dd794e)
	slices.Reverse(up)
	checkSum(t, up, 0x113fdb5c)
}

// TestNone is of P2.1: no bytes change no sum.
func TestNone(t *testing.T) {
	for _, s := range sums() {
		if a, b := crc.More(s, nil), crc.More(s, []byte{}); a != s || b != s {
			t.Errorf("More of %08x and none: %08x, %08x", s, a, b)
		}
	}
}

// TestBytes is of P2.1: every single byte, behind nothing and behind many sums.
func TestBytes(t *testing.T) {
	for c := range 256 {
		b := []byte{byte(c)}
		checkSum(t, b, told(0, b))
		checkSum(t, b, other(b))
		for _, s := range sums() {
			if got := crc.More(s, b); got != told(s, b) {
				t.Errorf("More(%08x, %x): %08x, not %08x", s, b, got, told(s, b))
			}
		}
	}
}

// TestRows is of P2.1: rows of many lengths, held against the chapter's words and against another program.
func TestRows(t *testing.T) {
	from := sums()
	for i, b := range rows() {
		checkSum(t, b, told(0, b))
		checkSum(t, b, other(b))
		s := from[i%len(from)]
		if got := crc.More(s, b); got != told(s, b) {
			t.Errorf("More(%08x, %d bytes): %08x, not %08x", s, len(b), got, told(s, b))
		}
	}
}

// TestParts is of P2.2: the sum is told part by part, parted anywhere, in two parts, in three, byte by byte, from any sum.
func TestParts(t *testing.T) {
	from := sums()
	for i, b := range rows() {
		s := from[i%len(from)]
		whole := crc.More(s, b)
		for at := 0; at <= len(b); at += 1 + len(b)/300 {
			if got := crc.More(crc.More(s, b[:at]), b[at:]); got != whole {
				t.Errorf("%d bytes parted at %d: %08x, not %08x", len(b), at, got, whole)
			}
		}
		one := s
		for j := range b {
			one = crc.More(one, b[j:j+1])
		}
		if one != whole {
			t.Errorf("%d bytes one by one: %08x, not %08x", len(b), one, whole)
		}
	}
	b := []byte("a row that is parted twice")
	for i := range len(b) + 1 {
		for j := i; j <= len(b); j++ {
			if got := crc.More(crc.More(crc.Sum(b[:i]), b[i:j]), b[j:]); got != crc.Sum(b) {
				t.Errorf("parted at %d and %d: %08x, not %08x", i, j, got, crc.Sum(b))
			}
		}
	}
}

// checkDiffer holds the sum of b against the sum of b with these bytes taken together, bit by bit, with those from at on.
func checkDiffer(t *testing.T, b []byte, at int, by ...byte) {
	t.Helper()
	was := crc.Sum(b)
	for i, c := range by {
		b[at+i] ^= c
	}
	if got := crc.Sum(b); got == was {
		t.Errorf("%d bytes, differing at %d by %x, have one sum %08x", len(b), at, by, got)
	}
	for i, c := range by {
		b[at+i] ^= c
	}
}

// TestOneDiffers is of P2.2: rows that differ in one byte, at each place, by each other byte.
func TestOneDiffers(t *testing.T) {
	chance := rand.New(rand.NewSource(3))
	for _, n := range []int{1, 2, 3, 4, 5, 8, 17, 64} {
		b := row(chance, n)
		for at := range n {
			for by := 1; by < 256; by++ {
				checkDiffer(t, b, at, byte(by))
			}
		}
	}
}

// TestTwoDiffer is of P2.2: rows that differ in two bytes side by side, by all that two bytes can differ.
func TestTwoDiffer(t *testing.T) {
	chance := rand.New(rand.NewSource(4))
	for _, n := range []int{2, 3, 9} {
		b := row(chance, n)
		for _, at := range []int{0, n - 2} {
			for by := 1; by < 1<<16; by++ {
				checkDiffer(t, b, at, byte(by), byte(by>>8))
			}
		}
	}
}

// TestFourDiffer is of P2.2: rows that differ in one to four bytes that stand together, in every length, at every place.
func TestFourDiffer(t *testing.T) {
	chance := rand.New(rand.NewSource(5))
	for n := 1; n < 80; n++ {
		b := row(chance, n)
		for wide := 1; wide <= min(n, 4); wide++ {
			for at := range n - wide + 1 {
				for range 20 {
					by := row(chance, wide)
					by[chance.Intn(wide)] |= 1
					checkDiffer(t, b, at, by...)
				}
			}
		}
	}
}

// TestAllFourDiffer is of P2.2, for all differences of four bytes at once: since sums of rows taken together are sums taken together (TestThreeRows), it is enough that none of the 32 bits' marks in the sum is made of the others'.
func TestAllFourDiffer(t *testing.T) {
	for n := 4; n < 80; n++ {
		zero := crc.Sum(make([]byte, n))
		for at := range n - 3 {
			var byTop [33]uint32 // marks, cleared of those before them, by how many bits they have
			for i := range 32 {
				b := make([]byte, n)
				b[at+i/8] = 1 << (i % 8)
				mark := crc.Sum(b) ^ zero
				for mark != 0 && byTop[bits.Len32(mark)] != 0 {
					mark ^= byTop[bits.Len32(mark)]
				}
				if mark == 0 {
					t.Fatalf("%d bytes: four bytes from %d on can differ and have one sum", n, at)
				}
				byTop[bits.Len32(mark)] = mark
			}
		}
	}
}

// together is rows of as many bytes, taken together bit by bit.
func together(rows ...[]byte) []byte {
	out := make([]byte, len(rows[0]))
	for _, b := range rows {
		for i, c := range b {
			out[i] ^= c
		}
	}
	return out
}

// TestThreeRows is of P2.2: three rows taken together bit by bit have the sum of theirs, taken together.
func TestThreeRows(t *testing.T) {
	chance := rand.New(rand.NewSource(6))
	check := func(a, b, c []byte) {
		t.Helper()
		want := crc.Sum(a) ^ crc.Sum(b) ^ crc.Sum(c)
		if got := crc.Sum(together(a, b, c)); got != want {
			t.Errorf("%x, %x and %x together: %08x, not %08x", a, b, c, got, want)
		}
	}
	for n := range 200 {
		zero := make([]byte, n)
		for range 10 {
			a, b := row(chance, n), row(chance, n)
			check(a, b, row(chance, n))
			check(a, b, zero)
			check(a, a, b)
			check(a, a, a)
			check(zero, b, zero)
		}
	}
	for i := range 64 {
		for j := range 64 {
			a, b := make([]byte, 8), make([]byte, 8)
			a[i/8], b[j/8] = 1<<(i%8), 1<<(j%8)
			check(a, b, make([]byte, 8))
		}
	}
}

// TestNothingChanged is of P2.3: what is handed in stays, and the room behind its end; and asked again, the answer is the same.
func TestNothingChanged(t *testing.T) {
	chance := rand.New(rand.NewSource(7))
	room := row(chance, 400)
	was := slices.Clone(room)
	for n := range 300 {
		part := room[50 : 50+n]
		one, two := crc.Sum(part), crc.More(7, part)
		if !bytes.Equal(room, was) {
			t.Fatalf("%d bytes were changed", n)
		}
		if crc.Sum(part) != one || crc.More(7, part) != two {
			t.Fatalf("the sum of %d bytes changes when it is asked again", n)
		}
	}
}

// TestNothingKept is of P2.3: bytes that are written over behind a call don't tell in the next.
func TestNothingKept(t *testing.T) {
	b := []byte("123456789")
	crc.Sum(b)
	copy(b, "987654321")
	checkSum(t, b, told(0, []byte("987654321")))
	checkSum(t, []byte("123456789"), 0xe3069283)
}

// TestEnds is of P1: a row of many bytes is answered, behind the greatest sum too.
func TestEnds(t *testing.T) {
	long := row(rand.New(rand.NewSource(8)), 1<<24)
	checkSum(t, long, other(long))
	if got, want := crc.More(0xffffffff, long), crc32.Update(0xffffffff, crc32.MakeTable(crc32.Castagnoli), long); got != want {
		t.Errorf("More of the greatest sum: %08x, not %08x", got, want)
	}
}
