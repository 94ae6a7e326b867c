package drift_test

import (
	"math"
	"math/big"
	"math/rand"
	"testing"

	"signet/api"
	"signet/drift"
)

const (
	least    = math.MinInt
	greatest = math.MaxInt

	maxTime = 1099511627776
	full    = 1099511627776000 // thousandths of a clock at most
)

// Clocks are values, of which each call has its own: a face made of pointers wouldn't build.
var (
	_ func(drift.Clock) int                                = drift.Clock.Read
	_ func(drift.Clock, int, int) (drift.Clock, api.Errno) = drift.Clock.Turn
)

func whole(n int) *big.Int         { return big.NewInt(int64(n)) }
func plus(a, b *big.Int) *big.Int  { return new(big.Int).Add(a, b) }
func times(a, b *big.Int) *big.Int { return new(big.Int).Mul(a, b) }

// below tells whether a is less than b, whole numbers without a bound.
func below(a, b *big.Int) bool { return a.Cmp(b) < 0 }

// outside tells whether n is not from a to b.
func outside(n, a, b int) bool {
	return below(whole(n), whole(a)) || below(whole(b), whole(n))
}

// down is a by b, rounded down.
func down(a, b *big.Int) int { return int(new(big.Int).Div(a, b).Int64()) }

// up is a by b, rounded up.
func up(a, b *big.Int) int { return -down(new(big.Int).Neg(a), b) }

// turned is a clock's thousandths behind a turn, by whole numbers without a bound.
func turned(thousandths, units, rate int) (int, api.Errno) {
	if outside(units, 0, maxTime) || outside(rate, -500, 500) || outside(thousandths, 0, full) {
		return 0, api.ErrArg
	}
	sum := plus(whole(thousandths), times(whole(units), plus(whole(1000), whole(rate))))
	if below(whole(full), sum) {
		return 0, api.ErrRange
	}
	return int(sum.Int64()), api.OK
}

// told is what Least, Most and Short answer, by whole numbers without a bound.
func told(n, d int) (want [3]int, e api.Errno) {
	if outside(n, 0, maxTime) || outside(d, 0, 500) {
		return want, api.ErrArg
	}
	fast, slow := whole(1000+d), whole(1000-d)
	all := times(whole(n), whole(1000))
	return [3]int{up(all, fast), down(all, slow), down(times(whole(n), slow), fast)}, api.OK
}

// live is what Live answers, by whole numbers without a bound.
func live(start, now, short int) bool {
	return !below(whole(now), whole(start)) && below(whole(now), plus(whole(start), whole(short)))
}

// over is what Over answers, by whole numbers without a bound.
func over(start, now, term int) bool {
	return below(plus(whole(start), whole(term)), whole(now))
}

func checkRead(t *testing.T, thousandths, want int) {
	t.Helper()
	c := drift.Clock{Thousandths: thousandths}
	if got := c.Read(); got != want || c.Read() != want || c.Thousandths != thousandths {
		t.Errorf("Read of %d: %d, not %d; then it has %d", thousandths, got, want, c.Thousandths)
	}
}

// checkTurned asks for the clock behind a turn, and whether the one that is turned stays as it was.
func checkTurned(t *testing.T, thousandths, units, rate, want int, wantErr api.Errno) {
	t.Helper()
	c := drift.Clock{Thousandths: thousandths}
	for range 2 {
		got, e := c.Turn(units, rate)
		if got.Thousandths != want || e != wantErr || c.Thousandths != thousandths {
			t.Errorf("Turn(%d, %d) of %d: %d, %d, not %d, %d; then it has %d", units, rate, thousandths, got.Thousandths, e, want, wantErr, c.Thousandths)
		}
	}
}

// checkTurn holds a turn against whole numbers without a bound.
func checkTurn(t *testing.T, thousandths, units, rate int) {
	t.Helper()
	want, wantErr := turned(thousandths, units, rate)
	checkTurned(t, thousandths, units, rate, want, wantErr)
}

func checkWithin(t *testing.T, rate, d int, want bool) {
	t.Helper()
	if got := drift.Within(rate, d); got != want {
		t.Errorf("Within(%d, %d): %t", rate, d, got)
	}
}

// checkTold asks what Least, Most and Short answer.
func checkTold(t *testing.T, n, d int, want [3]int, wantErr api.Errno) {
	t.Helper()
	for i, call := range []func(int, int) (int, api.Errno){drift.Least, drift.Most, drift.Short} {
		if got, e := call(n, d); got != want[i] || e != wantErr {
			t.Errorf("%s(%d, %d): %d, %d, not %d, %d", [3]string{"Least", "Most", "Short"}[i], n, d, got, e, want[i], wantErr)
		}
	}
}

// checkNumbers holds Least, Most and Short against whole numbers without a bound.
func checkNumbers(t *testing.T, n, d int) {
	t.Helper()
	want, wantErr := told(n, d)
	checkTold(t, n, d, want, wantErr)
}

func checkLive(t *testing.T, start, now, short int, want bool) {
	t.Helper()
	if got := drift.Live(start, now, short); got != want {
		t.Errorf("Live(%d, %d, %d): %t", start, now, short, got)
	}
}

func checkOver(t *testing.T, start, now, term int, want bool) {
	t.Helper()
	if got := drift.Over(start, now, term); got != want {
		t.Errorf("Over(%d, %d, %d): %t", start, now, term, got)
	}
}

// checkTerm holds Live and Over against whole numbers without a bound.
func checkTerm(t *testing.T, start, now, term int) {
	t.Helper()
	checkLive(t, start, now, term, live(start, now, term))
	checkOver(t, start, now, term, over(start, now, term))
}

// numbers is what Least, Most and Short answer to what is in form.
func numbers(t *testing.T, n, d int) (lo, hi, short int) {
	t.Helper()
	lo, e := drift.Least(n, d)
	hi, f := drift.Most(n, d)
	short, g := drift.Short(n, d)
	if e != api.OK || f != api.OK || g != api.OK {
		t.Fatalf("of %d at the drift %d: %d, %d, %d", n, d, e, f, g)
	}
	return lo, hi, short
}

// drifts are all of them.
func drifts() []int {
	out := make([]int, 501)
	for d := range out {
		out[d] = d
	}
	return out
}

// upTo is an int by chance from 0 to most, of any number of digits.
func upTo(chance *rand.Rand, most int) int {
	return chance.Intn(min(most, 1<<chance.Intn(62)) + 1)
}

// TestExamples is of P9.1, P9.2 and P9.3: the chapter's examples.
func TestExamples(t *testing.T) {
	for _, c := range []struct {
		call       func(int, int) (int, api.Errno)
		n, d, want int
	}{{drift.Short, 1000, 100, 818}, {drift.Least, 100, 500, 67}, {drift.Most, 100, 500, 200}} {
		if got, e := c.call(c.n, c.d); got != c.want || e != api.OK {
			t.Errorf("of %d at the drift %d: %d, %d, not %d", c.n, c.d, got, e, c.want)
		}
	}
	checkTurned(t, 0, 10, -100, 9000, api.OK)
	checkRead(t, 9000, 9)
	c, _ := drift.Clock{}.Turn(10, -100)
	if c.Read() != 9 {
		t.Errorf("it reads %d", c.Read())
	}
	checkLive(t, 5, 5, 1, true)
	checkLive(t, 5, 6, 1, false)
	checkLive(t, 5, 4, 9, false)
	checkOver(t, 5, 15, 10, false)
	checkOver(t, 5, 16, 10, true)
}

// TestRead is of P9.1: the whole units, rounded down; none of a clock below 0.
func TestRead(t *testing.T) {
	for _, c := range [][2]int{{least, 0}, {least + 1, 0}, {-full, 0}, {-1001, 0}, {-1000, 0}, {-999, 0}, {-1, 0}, {0, 0}, {1, 0}, {999, 0}, {1000, 1}, {1001, 1}, {1999, 1}, {2000, 2},
		{full - 1001, maxTime - 2}, {full - 1000, maxTime - 1}, {full - 1, maxTime - 1}, {full, maxTime}, {full + 1, maxTime}, {full + 999, maxTime}, {full + 1000, maxTime + 1},
		{greatest - 808, 9223372036854774}, {greatest - 807, 9223372036854775}, {greatest - 1, 9223372036854775}, {greatest, 9223372036854775}} {
		checkRead(t, c[0], c[1])
	}
	for n := range 5000 {
		checkRead(t, n, down(whole(n), whole(1000)))
		checkRead(t, -n, 0)
		checkRead(t, full+n, down(whole(full+n), whole(1000)))
	}
	chance := rand.New(rand.NewSource(1))
	for range 20000 {
		n := upTo(chance, greatest-1)
		checkRead(t, n, down(whole(n), whole(1000)))
		checkRead(t, ^n, 0)
	}
}

// TestTurn is of P9.1: units, rates and clocks at their bounds and beyond, each with each.
func TestTurn(t *testing.T) {
	units := []int{least, least + 1, -maxTime, -1, 0, 1, 2, 999, 1000, 1001, maxTime / 2, maxTime - 1, maxTime, maxTime + 1, full, greatest - 1, greatest}
	rates := []int{least, least + 1, -1000, -501, -500, -499, -1, 0, 1, 499, 500, 501, 1000, maxTime, greatest - 1, greatest}
	clocks := []int{least, least + 1, -full, -1, 0, 1, 999, 1000, maxTime, full / 2, full - 1500, full - 1000, full - 999, full - 1, full, full + 1, full + 1000, greatest - 1, greatest}
	for _, u := range units {
		for _, r := range rates {
			for _, c := range clocks {
				checkTurn(t, c, u, r)
			}
		}
	}
	for _, u := range []int{0, 1, 7, maxTime} {
		for r := -510; r <= 510; r++ {
			checkTurn(t, 0, u, r)
			checkTurn(t, 123, u, r)
		}
	}
}

// TestTurnNamed is of P9.1: turns whose answers are written out here.
func TestTurnNamed(t *testing.T) {
	for _, c := range []struct {
		thousandths, units, rate, want int
		e                              api.Errno
	}{
		{0, 1, 0, 1000, api.OK}, {0, 1, 1, 1001, api.OK}, {0, 1, -1, 999, api.OK}, {0, 1, 500, 1500, api.OK}, {0, 1, -500, 500, api.OK}, {0, 0, 500, 0, api.OK}, {7, 3, 2, 3013, api.OK},
		{0, maxTime, 0, full, api.OK}, {0, maxTime, -1, full - maxTime, api.OK}, {0, maxTime, -500, full / 2, api.OK}, {full / 2, maxTime, -500, full, api.OK}, {full, 0, 0, full, api.OK}, {full, 0, 500, full, api.OK}, {full - 1000, 1, 0, full, api.OK}, {full - 1500, 1, 500, full, api.OK},
		{0, maxTime, 1, 0, api.ErrRange}, {1, maxTime, 0, 0, api.ErrRange}, {0, maxTime, 500, 0, api.ErrRange}, {full/2 + 1, maxTime, -500, 0, api.ErrRange}, {full, maxTime, 500, 0, api.ErrRange}, {full, 1, -500, 0, api.ErrRange}, {full - 999, 1, 0, 0, api.ErrRange}, {full - 1499, 1, 500, 0, api.ErrRange},
		{0, -1, 0, 0, api.ErrArg}, {0, maxTime + 1, 0, 0, api.ErrArg}, {0, 1, 501, 0, api.ErrArg}, {0, 1, -501, 0, api.ErrArg}, {-1, 1, 0, 0, api.ErrArg}, {-1, 0, 0, 0, api.ErrArg}, {full + 1, 0, 0, 0, api.ErrArg},
		// Both errors apply to these.
		{0, maxTime + 1, 500, 0, api.ErrArg}, {full, maxTime + 1, 0, 0, api.ErrArg}, {full, 1, 501, 0, api.ErrArg}, {1, maxTime, 501, 0, api.ErrArg}, {full + 1, 1, 0, 0, api.ErrArg}, {full + 1, maxTime, 500, 0, api.ErrArg}, {greatest, maxTime, 500, 0, api.ErrArg},
		{greatest, greatest, greatest, 0, api.ErrArg}, {least, least, least, 0, api.ErrArg}, {0, greatest, 0, 0, api.ErrArg}, {0, least, 0, 0, api.ErrArg}, {0, 1, greatest, 0, api.ErrArg}, {0, 1, least, 0, api.ErrArg}, {greatest, 1, 0, 0, api.ErrArg}, {least, 1, 0, 0, api.ErrArg},
	} {
		checkTurned(t, c.thousandths, c.units, c.rate, c.want, c.e)
	}
}

// TestTurnFull is of P9.1: turns that come just to what a clock has at most, and one thousandth above or below it.
func TestTurnFull(t *testing.T) {
	chance := rand.New(rand.NewSource(2))
	for r := -500; r <= 500; r++ {
		for _, u := range []int{1, 2, 1000, maxTime / 3, full / 1500, 1 + upTo(chance, full/1500-1)} {
			start := full - u*(1000+r)
			checkTurned(t, start-1, u, r, full-1, api.OK)
			checkTurned(t, start, u, r, full, api.OK)
			checkTurned(t, start+1, u, r, 0, api.ErrRange)
			checkTurned(t, full, u, r, 0, api.ErrRange)
		}
		checkTurned(t, full, 0, r, full, api.OK)
		checkTurned(t, full+1, 0, r, 0, api.ErrArg)
	}
}

// TestTurnStays is of P9.1 and the chapter's Ways: a clock is a value: turns of one don't tell on another.
func TestTurnStays(t *testing.T) {
	c := drift.Clock{Thousandths: 5}
	p := &c
	one, _ := p.Turn(1, 0)
	two, _ := one.Turn(1, 500)
	three, _ := p.Turn(2, -500)
	none, e := p.Turn(-1, 0)
	if c.Thousandths != 5 || one.Thousandths != 1005 || two.Thousandths != 2505 || three.Thousandths != 1005 || none != (drift.Clock{}) || e != api.ErrArg {
		t.Error(c, one, two, three, none, e)
	}
	if one != three || p.Read() != 0 || two.Read() != 2 {
		t.Error(one, three, p.Read(), two.Read())
	}
	one.Thousandths = 7
	if c.Thousandths != 5 || two.Thousandths != 2505 {
		t.Error(c, two)
	}
}

// TestTurns is of P9.1: turns by chance, one behind the other, until a clock is full.
func TestTurns(t *testing.T) {
	chance := rand.New(rand.NewSource(3))
	for range 2000 {
		var c drift.Clock
		for range 60 {
			units, rate := upTo(chance, maxTime), chance.Intn(1001)-500
			want, wantErr := turned(c.Thousandths, units, rate)
			next, e := c.Turn(units, rate)
			if next.Thousandths != want || e != wantErr || next.Read() != want/1000 {
				t.Fatalf("Turn(%d, %d) of %d: %d, %d, not %d, %d", units, rate, c.Thousandths, next.Thousandths, e, want, wantErr)
			}
			if e == api.OK {
				c = next
			}
		}
	}
}

// TestWithin is of P9.1: rates at either bound of a drift and beside it, and drifts that are none.
func TestWithin(t *testing.T) {
	for _, d := range drifts() {
		for _, r := range []int{-d - 1, -d, -d + 1, d - 1, d, d + 1} {
			checkWithin(t, r, d, !outside(r, -d, d))
		}
		checkWithin(t, 0, d, true)
		for _, r := range []int{least, least + 1, -maxTime, -501, 501, maxTime, greatest - 1, greatest} {
			checkWithin(t, r, d, false)
		}
		checkWithin(t, -500, d, d == 500)
		checkWithin(t, 500, d, d == 500)
	}
	for _, d := range []int{least, least + 1, -maxTime, -501, -500, -1, 501, 502, 1000, maxTime, greatest - 1, greatest} {
		for _, r := range []int{least, least + 1, -501, -500, -1, 0, 1, 500, 501, greatest - 1, greatest, d, -d, d - 1, d + 1} {
			checkWithin(t, r, d, false)
		}
	}
	for d := -510; d <= 510; d++ {
		for r := -510; r <= 510; r++ {
			checkWithin(t, r, d, 0 <= d && d <= 500 && max(r, -r) <= d)
		}
	}
}

// TestNumbers is of P9.2: numbers and drifts at their bounds and beyond, each with each.
func TestNumbers(t *testing.T) {
	for _, n := range []int{least, least + 1, -maxTime, -1000, -1, 0, 1, 2, 3, 499, 500, 501, 999, 1000, 1001, 1499, 1500, 1501, maxTime / 2, maxTime - 1, maxTime, maxTime + 1, full, full + 1, greatest - 1, greatest} {
		for _, d := range []int{least, least + 1, -1000, -501, -500, -1, 0, 1, 2, 99, 100, 101, 250, 333, 499, 500, 501, 1000, 1001, maxTime, greatest - 1, greatest} {
			checkNumbers(t, n, d)
		}
	}
	for _, d := range drifts() {
		for n := range 1100 {
			checkNumbers(t, n, d)
			checkNumbers(t, maxTime-n, d)
		}
	}
}

// TestNumbersNamed is of P9.2: numbers whose answers are written out here.
func TestNumbersNamed(t *testing.T) {
	for _, c := range []struct {
		n, d int
		want [3]int
	}{
		{0, 0, [3]int{0, 0, 0}}, {0, 500, [3]int{0, 0, 0}}, {1, 0, [3]int{1, 1, 1}}, {1, 1, [3]int{1, 1, 0}}, {1, 500, [3]int{1, 2, 0}}, {2, 500, [3]int{2, 4, 0}}, {2, 100, [3]int{2, 2, 1}},
		{999, 1, [3]int{999, 1000, 997}}, {1000, 1, [3]int{1000, 1001, 998}}, {1001, 1, [3]int{1000, 1002, 999}}, {1002, 1, [3]int{1001, 1003, 999}}, {1000, 100, [3]int{910, 1111, 818}},
		{1499, 500, [3]int{1000, 2998, 499}}, {1500, 500, [3]int{1000, 3000, 500}}, {1501, 500, [3]int{1001, 3002, 500}},
		{899, 100, [3]int{818, 998, 735}}, {900, 100, [3]int{819, 1000, 736}}, {901, 100, [3]int{820, 1001, 737}}, {1099, 100, [3]int{1000, 1221, 899}}, {1100, 100, [3]int{1000, 1222, 900}}, {1101, 100, [3]int{1001, 1223, 900}},
		{maxTime, 0, [3]int{maxTime, maxTime, maxTime}}, {maxTime, 500, [3]int{733007751851, 2199023255552, 366503875925}}, {maxTime, 1, [3]int{1098413214562, 1100612240016, 1097314801346}},
	} {
		checkTold(t, c.n, c.d, c.want, api.OK)
	}
	for _, c := range [][2]int{{-1, 0}, {-1, 500}, {maxTime + 1, 0}, {maxTime + 1, 500}, {0, -1}, {0, 501}, {maxTime, -1}, {maxTime, 501}, {-1, -1}, {-1, 501}, {maxTime + 1, -1}, {maxTime + 1, 501}, {1, 1000}, {1, -1000}, {least, 0}, {greatest, 0}, {1, least}, {1, greatest}, {least, least}, {greatest, greatest}} {
		checkTold(t, c[0], c[1], [3]int{}, api.ErrArg)
	}
}

// divisor is the greatest one of a and b.
func divisor(a, b int) int {
	return int(new(big.Int).GCD(nil, nil, whole(a), whole(b)).Int64())
}

// TestEven is of P9.2: numbers whose quotients come out even, and those beside them.
func TestEven(t *testing.T) {
	chance := rand.New(rand.NewSource(4))
	for _, d := range drifts() {
		for i, by := range []int{1000 + d, 1000 - d, 1000 + d} {
			above := [3]int{1000, 1000, 1000 - d}[i]
			step := by / divisor(by, above)
			for _, k := range []int{0, 1, 2, 3, maxTime/step - 1, maxTime / step, upTo(chance, maxTime/step), upTo(chance, maxTime/step)} {
				n := k * step
				if want, e := told(n, d); e != api.OK || !times(whole(want[i]), whole(by)).IsInt64() || want[i]*by != n*above {
					t.Fatalf("the quotient %d of %d at the drift %d isn't even", i, n, d)
				}
				checkNumbers(t, n-1, d)
				checkNumbers(t, n, d)
				checkNumbers(t, n+1, d)
			}
		}
	}
}

// TestNumbersByChance is of P9.2 and P9.5: numbers by chance, and what follows of them.
func TestNumbersByChance(t *testing.T) {
	chance := rand.New(rand.NewSource(5))
	for range 200000 {
		n, d := upTo(chance, maxTime), chance.Intn(501)
		checkNumbers(t, n, d)
		m := upTo(chance, n)
		lo, hi, short := numbers(t, n, d)
		lessLo, lessHi, lessShort := numbers(t, m, d)
		if short > n || lo > hi || lo > n || hi < n || lessLo > lo || lessHi > hi || lessShort > short {
			t.Errorf("%d and %d at the drift %d: %d, %d, %d and %d, %d, %d", n, m, d, lo, hi, short, lessLo, lessHi, lessShort)
		}
	}
}

// TestFollows is of P9.5: the term is Short's bound, and Short itself at drift 0; Least is at most Most; all three rise.
func TestFollows(t *testing.T) {
	for _, d := range drifts() {
		for _, from := range []int{0, 999000, maxTime - 1100} {
			var was [3]int
			for n := from; n <= from+1100; n++ {
				lo, hi, short := numbers(t, n, d)
				if short > n || d == 0 && (short != n || lo != n || hi != n) || lo > hi {
					t.Errorf("%d at the drift %d: %d, %d, %d", n, d, lo, hi, short)
				}
				if lo < was[0] || hi < was[1] || short < was[2] {
					t.Errorf("%d at the drift %d: %d, %d, %d, behind %v", n, d, lo, hi, short, was)
				}
				was = [3]int{lo, hi, short}
			}
		}
		// One by one they rise in steps, over all they do rise.
		lo, hi, short := numbers(t, 0, d)
		moreLo, moreHi, moreShort := numbers(t, 3, d)
		if lo != 0 || hi != 0 || short != 0 || moreLo <= lo || moreHi <= hi || moreShort <= short {
			t.Errorf("at the drift %d: %d, %d, %d, then %d, %d, %d", d, lo, hi, short, moreLo, moreHi, moreShort)
		}
	}
}

// TestTerms is of P9.3: Live and Over of ints of both signs, near 0 and at either end, each with each.
func TestTerms(t *testing.T) {
	ends := []int{least, least + 1, least + 2, least / 2, least/2 - 1, -maxTime, -10, -9, -2, -1, 0, 1, 2, 9, 10, 11, maxTime, greatest / 2, greatest/2 + 1, greatest/2 + 2, greatest - 2, greatest - 1, greatest}
	for _, start := range ends {
		for _, term := range ends {
			for _, now := range ends {
				checkTerm(t, start, now, term)
			}
			checkBounds(t, start, term)
		}
	}
	for start := -6; start <= 6; start++ {
		for term := -13; term <= 13; term++ {
			for now := -20; now <= 20; now++ {
				checkLive(t, start, now, term, start <= now && now < start+term)
				checkOver(t, start, now, term, now > start+term)
			}
		}
	}
}

// checkBounds holds Live and Over against whole numbers without a bound, where now is about either bound, as far as ints go.
func checkBounds(t *testing.T, start, term int) {
	t.Helper()
	for _, bound := range []*big.Int{whole(start), plus(whole(start), whole(term))} {
		for by := -2; by <= 2; by++ {
			if now := plus(bound, whole(by)); now.IsInt64() {
				checkTerm(t, start, int(now.Int64()), term)
			}
		}
	}
}

// TestTermsNamed is of P9.3: starts and terms that are together beyond all ints, with answers that are written out here.
func TestTermsNamed(t *testing.T) {
	for _, c := range []struct {
		start, now, term int
		live, over       bool
	}{
		{greatest, greatest, 1, true, false}, {greatest, greatest, greatest, true, false}, {greatest, greatest, 0, false, false}, {greatest, greatest, -1, false, true}, {greatest, greatest - 1, 1, false, false}, {greatest - 1, greatest, 1, false, false}, {greatest - 1, greatest, 2, true, false}, {1, greatest, greatest, true, false}, {0, greatest, greatest, false, false}, {-1, greatest, greatest, false, true},
		{least, least, -1, false, true}, {least, least, least, false, true}, {least, greatest, least, false, true}, {least, least, 0, false, false}, {least, least, 1, true, false}, {least, least + 1, 1, false, false}, {least, least + 2, 1, false, true}, {-1, least, least, false, true}, {0, least, least, false, false}, {1, least, least, false, false}, {0, least + 1, least, false, true},
		{least, -2, greatest, true, false}, {least, -1, greatest, false, false}, {least, 0, greatest, false, true}, {least, greatest, greatest, false, true}, {greatest, least, greatest, false, false}, {greatest, least, least, false, false}, {greatest, -1, least, false, false}, {greatest, 0, least, false, true}, {greatest, greatest, least, false, true}, {greatest, least, least + 1, false, false}, {greatest, 0, least + 1, false, false}, {greatest, 1, least + 1, false, true},
	} {
		checkLive(t, c.start, c.now, c.term, c.live)
		checkOver(t, c.start, c.now, c.term, c.over)
	}
}

// TestTermsByChance is of P9.3: ints by chance, of any number of digits and either sign.
func TestTermsByChance(t *testing.T) {
	chance := rand.New(rand.NewSource(6))
	wide := func() int { return int(chance.Uint64()) >> chance.Intn(64) }
	for range 50000 {
		start, term := wide(), wide()
		checkTerm(t, start, wide(), term)
		checkBounds(t, start, term)
		checkBounds(t, greatest-chance.Intn(50), chance.Intn(100))
		checkBounds(t, least+chance.Intn(50), -chance.Intn(100))
	}
}

// pair is two clocks that go on by the same turns, and what each read at the beginning.
type pair struct {
	clocks [2]drift.Clock
	starts [2]int
}

func newPair(one, other int) pair {
	p := pair{clocks: [2]drift.Clock{{Thousandths: one}, {Thousandths: other}}}
	for i, c := range p.clocks {
		p.starts[i] = c.Read()
	}
	return p
}

// turn turns both, if both have room for it.
func (p *pair) turn(t *testing.T, units, one, other, d int) bool {
	t.Helper()
	if !drift.Within(one, d) || !drift.Within(other, d) {
		t.Fatalf("%d or %d isn't within %d", one, other, d)
	}
	a, e := p.clocks[0].Turn(units, one)
	b, f := p.clocks[1].Turn(units, other)
	if e != api.OK || f != api.OK {
		return false
	}
	p.clocks = [2]drift.Clock{a, b}
	return true
}

// over tells whether a clock is Over by a term.
func (p *pair) over(i, term int) bool {
	return drift.Over(p.starts[i], p.clocks[i].Read(), term)
}

// live tells whether a clock is Live by a short term.
func (p *pair) live(i, short int) bool {
	return drift.Live(p.starts[i], p.clocks[i].Read(), short)
}

// leases is what was seen of leases: how often one was over, how often a term by one greater than Short would have been live then.
type leases struct {
	over, near int
}

// checkLease asks, behind each turn, whether the other clock isn't Live by Short of a term, once one was Over by it.
func (l *leases) checkLease(t *testing.T, p pair, term, d int, turns func() (units, one, other int)) {
	t.Helper()
	_, _, short := numbers(t, term, d)
	var gone [2]bool
	for range 40 {
		for i := range gone {
			if p.over(i, term) && !gone[i] {
				gone[i] = true
				l.over++
				if p.live(1-i, short+1) {
					l.near++
				}
			}
			if gone[i] && p.live(1-i, short) {
				t.Errorf("term %d, drift %d: one clock from %d is over at %d, the other one from %d is live at %d by %d", term, d, p.starts[i], p.clocks[i].Thousandths, p.starts[1-i], p.clocks[1-i].Thousandths, short)
			}
		}
		units, one, other := turns()
		if !p.turn(t, units, one, other, d) {
			return
		}
	}
}

// TestLease is of P9.4: two clocks by chance turns within one drift.
func TestLease(t *testing.T) {
	chance := rand.New(rand.NewSource(7))
	var seen leases
	for i := range 60000 {
		d := []int{chance.Intn(501), 500, 100, 0}[i%4]
		term := upTo(chance, maxTime)
		step := max(term/(2+chance.Intn(20)), 1)
		start := upTo(chance, full)
		rate := func() int { return []int{-d, d, chance.Intn(2*d+1) - d}[chance.Intn(3)] }
		if i%3 == 0 {
			rate = func() int { return d }
		}
		p := newPair(start, upTo(chance, full))
		seen.checkLease(t, p, term, d, func() (int, int, int) { return upTo(chance, step), rate(), rate() })
		p = newPair(upTo(chance, 3000), upTo(chance, 3000))
		seen.checkLease(t, p, term, d, func() (int, int, int) { return chance.Intn(step + 1), rate(), -d })
	}
	if seen.over < 10000 {
		t.Errorf("leases were over %d times", seen.over)
	}
}

// TestLeaseNear is of P9.4: one clock as fast and the other one as slow as they may be, unit by unit, from all that they may have of a unit at the beginning.
func TestLeaseNear(t *testing.T) {
	for _, d := range []int{0, 1, 2, 99, 100, 333, 499, 500} {
		var seen leases
		for term := range 30 {
			for _, one := range []int{0, 1, 499, 500, 998, 999, 1000, 5999} {
				for _, other := range []int{0, 1, 500, 999, 7000} {
					seen.checkLease(t, newPair(one, other), term, d, func() (int, int, int) { return 1, d, -d })
				}
			}
		}
		// At the drift 0 a whole unit more has passed by either clock.
		if seen.over == 0 || (seen.near == 0) != (d == 0) {
			t.Errorf("at the drift %d leases were over %d times, %d times near", d, seen.over, seen.near)
		}
	}
}

// TestLeaseGreat is of P9.4: terms up to the greatest one, with turns that come just to their end.
func TestLeaseGreat(t *testing.T) {
	chance := rand.New(rand.NewSource(8))
	var seen leases
	for range 20000 {
		d := chance.Intn(501)
		term := upTo(chance, maxTime)
		// The true time in which the faster clock is surely Over, less a few units.
		passed, _, _ := numbers(t, term, d)
		next := max(passed-4, 0)
		p := newPair(chance.Intn(2000), chance.Intn(2000))
		seen.checkLease(t, p, term, d, func() (int, int, int) {
			units := next
			next = 1
			return units, d, -d
		})
	}
	if seen.over < 10000 || seen.near < 1000 {
		t.Errorf("leases were over %d times, %d times near", seen.over, seen.near)
	}
}

// TestTrueTime is of P9.2: the true time that has passed lies from Least to Most of what a clock within the drift has gone on by.
func TestTrueTime(t *testing.T) {
	chance := rand.New(rand.NewSource(9))
	even := 0
	for range 20000 {
		d := chance.Intn(501)
		start := upTo(chance, full/2)
		c, passed := drift.Clock{Thousandths: start}, 0
		for range 20 {
			units, rate := upTo(chance, maxTime/40), chance.Intn(2*d+1)-d
			next, e := c.Turn(units, rate)
			if e != api.OK {
				break
			}
			c, passed = next, passed+units
			gone := c.Thousandths - start
			if gone/1000 >= maxTime {
				break
			}
			lo, _, _ := numbers(t, gone/1000, d)
			_, hi, _ := numbers(t, (gone+999)/1000, d)
			if passed < lo || passed > hi {
				t.Errorf("drift %d: %d units, %d thousandths: not from %d to %d", d, passed, gone, lo, hi)
			}
			if gone%1000 == 0 {
				even++
			}
		}
	}
	if even == 0 {
		t.Error("no clock went on by whole units")
	}
}

// behind is a new clock behind turns of passed units of true time in all, at two rates that are one apart, by which it has gone on by just those units.
func behind(t *testing.T, passed, units, d int) drift.Clock {
	t.Helper()
	var c drift.Clock
	if passed == 0 {
		return c
	}
	rate := down(whole(1000*(units-passed)), whole(passed))
	faster := 1000*(units-passed) - rate*passed
	for _, turn := range [][2]int{{passed - faster, rate}, {faster, rate + 1}} {
		if turn[0] == 0 {
			continue
		}
		if !drift.Within(turn[1], d) {
			t.Fatalf("%d units in %d at the drift %d: the rate %d", units, passed, d, turn[1])
		}
		next, e := c.Turn(turn[0], turn[1])
		if e != api.OK {
			t.Fatalf("%d units in %d at the drift %d: %d", units, passed, d, e)
		}
		c = next
	}
	return c
}

// TestBest is of P9.2: Least and Most are such true times, and there is none beyond them: by clocks.
func TestBest(t *testing.T) {
	chance := rand.New(rand.NewSource(10))
	for _, d := range drifts() {
		for _, n := range []int{0, 1, 2, 3, 10, 999, 1000, 1001, upTo(chance, 5000), upTo(chance, maxTime/2), upTo(chance, maxTime/2), maxTime / 2} {
			lo, hi, _ := numbers(t, n, d)
			for _, passed := range []int{lo, hi} {
				if c := behind(t, passed, n, d); c.Thousandths != 1000*n || c.Read() != n {
					t.Errorf("%d units in %d at the drift %d: %d", n, passed, d, c.Thousandths)
				}
			}
			if lo > 0 {
				if c, e := (drift.Clock{}).Turn(lo-1, d); e != api.OK || c.Thousandths >= 1000*n {
					t.Errorf("%d units in less than %d at the drift %d: %d, %d", n, lo, d, c.Thousandths, e)
				}
			}
			if c, e := (drift.Clock{}).Turn(min(hi+1, maxTime), -d); hi < maxTime && (e != api.OK || c.Thousandths <= 1000*n) {
				t.Errorf("%d units in more than %d at the drift %d: %d, %d", n, hi, d, c.Thousandths, e)
			}
		}
	}
}

// TestEnds is of P1: ints by chance, of any number of digits and either sign, are answered.
func TestEnds(t *testing.T) {
	chance := rand.New(rand.NewSource(11))
	wide := func() int { return int(chance.Uint64()) >> chance.Intn(64) }
	for range 100000 {
		a, b, c := wide(), wide(), wide()
		checkTurn(t, a, b, c)
		checkTurn(t, a, b, c%600)
		checkNumbers(t, a, b)
		checkNumbers(t, a, c%600)
		checkWithin(t, a, b, !outside(b, 0, 500) && !outside(a, -b, b))
		checkRead(t, a, max(0, a)/1000)
	}
}
