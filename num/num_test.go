package num

import (
	"math/big"
	"regexp"
	"slices"
	"strings"
	"testing"
)

const (
	least    = -1 << 63
	greatest = 1<<63 - 1
)

// edges are numbers at which forms, sums and differences change their nature.
func edges() []int {
	return []int{
		least, least + 1, least + 2, least/2 - 1, least / 2, least/2 + 1,
		-1 << 32, -1 << 31, -1000000000000000000, -1001, -1000, -999, -101, -100, -99,
		-11, -10, -9, -2, -1, 0, 1, 2, 9, 10, 11,
		99, 100, 101, 999, 1000, 1001, 1<<31 - 1, 1 << 31, 1 << 32, 1 << 53, 1<<53 + 1, 1000000000000000000,
		greatest/2 - 1, greatest / 2, greatest/2 + 1, greatest - 2, greatest - 1, greatest,
	}
}

// fits is the number of b, and whether 64 bits hold it.
func fits(b *big.Int) (int, bool) {
	if !b.IsInt64() {
		return 0, false
	}
	return int(b.Int64()), true
}

// --- P1.1: Print and Parse

func TestPrintReturnsTheDecimalForm(t *testing.T) {
	for n, want := range map[int]string{
		0:           "0",
		7:           "7",
		-7:          "-7",
		10:          "10",
		-10:         "-10",
		1234567890:  "1234567890",
		-1234567890: "-1234567890",
		1 << 53:     "9007199254740992",
		1<<53 + 1:   "9007199254740993",
		greatest:    "9223372036854775807",
		least:       "-9223372036854775808",
	} {
		if got := Print(n); got != want {
			t.Errorf("P1.1: Print(%d) = %q, want %q", n, got, want)
		}
		if got, ok := Parse(want); got != n || !ok {
			t.Errorf("P1.1: Parse(%q) = %d, %v, want %d, true", want, got, ok, n)
		}
	}
	for _, n := range edges() {
		if got, want := Print(n), big.NewInt(int64(n)).String(); got != want {
			t.Errorf("P1.1: Print(%d) = %q, want %q", n, got, want)
		}
	}
}

func TestParseRejectsWhatIsNoDecimalForm(t *testing.T) {
	for _, s := range []string{
		// Signs and zeros.
		"", "-", "+", "+1", "+0", "-0", "00", "01", "-01", "007", "--1", "-+1", "+-1", "1-", "0-", "-00",
		"00000000000000000000000000000001", "-00000000000000000000000000000000",
		// Blanks, also those that are no spaces.
		" ", "1 ", " 1", "1 2", "- 1", "-1 ", "\t1", "1\n", "1\r\n", "\v1", "1\x00", "\x001", "1\u00a0", "\u20031",
		// Other ways to write numbers.
		"1_000", "0x10", "0b1", "0o7", "1e3", "1.0", ".1", "1.", "1,000", "1a", "a1", "a", "inf", "NaN", "nil",
		// Digits and signs of other scripts, and bytes that are no text.
		"\u0661", "\uff11", "\u22121", "\u20111", "1\u0301", "\xff", "1\xff", "\xb1",
		// Numbers that do not fit.
		"9223372036854775808", "-9223372036854775809", "10000000000000000000", "-10000000000000000000",
		"18446744073709551615", "18446744073709551616", "18446744073709551617", "-18446744073709551616",
		"99999999999999999999", "-99999999999999999999", "340282366920938463463374607431768211456",
		"09223372036854775807", "+9223372036854775807", "-09223372036854775808",
		strings.Repeat("9", 5000), "-" + strings.Repeat("9", 5000), strings.Repeat("0", 5000), "1" + strings.Repeat("0", 5000),
	} {
		if n, ok := Parse(s); n != 0 || ok {
			t.Errorf("P1.1: Parse(%.40q) = %d, %v, want 0, false", s, n, ok)
		}
	}
}

// --- P1.4: one form for a number, and one number for a form

func TestParseOfPrintIsTheNumber(t *testing.T) {
	check := func(n int) {
		if got, ok := Parse(Print(n)); got != n || !ok {
			t.Fatalf("P1.4: Parse(Print(%d)) = %d, %v", n, got, ok)
		}
	}
	for n := -20000; n <= 20000; n++ {
		check(n)
	}
	for _, n := range edges() {
		check(n)
	}
	for shift := range 64 {
		for by := -3; by <= 3; by++ {
			check(1<<shift + by)
			check(-1<<shift + by)
		}
	}
}

// TestParseOfEveryShortString holds Parse against the definition of the decimal
// form, for all strings of at most five of these signs.
func TestParseOfEveryShortString(t *testing.T) {
	form := regexp.MustCompile(`^(0|-?[1-9][0-9]*)$`)
	const signs = "-+0129 _"
	var check func(s string)
	check = func(s string) {
		want, valid := 0, form.MatchString(s)
		if valid {
			b, _ := new(big.Int).SetString(s, 10)
			want = int(b.Int64())
		}
		if n, ok := Parse(s); n != want || ok != valid {
			t.Errorf("P1.4: Parse(%q) = %d, %v, want %d, %v", s, n, ok, want, valid)
		}
		if len(s) < 5 {
			for _, c := range signs {
				check(s + string(c))
			}
		}
	}
	check("")
}

// TestParseAtTheLimits holds Parse against big numbers around those at which 64
// bits end.
func TestParseAtTheLimits(t *testing.T) {
	for _, limit := range []int{least, greatest} {
		for by := -300; by <= 300; by++ {
			b := big.NewInt(int64(limit))
			b.Add(b, big.NewInt(int64(by)))
			want, valid := fits(b)
			if n, ok := Parse(b.String()); n != want || ok != valid {
				t.Errorf("P1.4: Parse(%q) = %d, %v, want %d, %v", b, n, ok, want, valid)
			}
		}
	}
}

func TestResultsDependOnArgumentsOnly(t *testing.T) {
	type result struct {
		printed               string
		parsed, sum, diff, at int
		first, after          int
		ok                    [4]bool
	}
	all := func(a, b int) (r result) {
		r.printed = Print(a)
		r.parsed, r.ok[0] = Parse(r.printed)
		r.sum, r.ok[1] = Add(a, b)
		r.diff, r.ok[2] = Sub(a, b)
		r.at, r.ok[3] = Place(a, b)
		r.first, r.after = Span(a, b, 10)
		return r
	}
	var first []result
	for _, a := range edges() {
		for _, b := range edges() {
			first = append(first, all(a, b))
		}
	}
	// The same calls again, the last one first.
	i := len(first)
	for _, a := range slices.Backward(edges()) {
		for _, b := range slices.Backward(edges()) {
			i--
			if got := all(a, b); got != first[i] {
				t.Fatalf("P1.4: %d, %d: %v at first, then %v", a, b, first[i], got)
			}
		}
	}
}

// --- P1.2: Add and Sub

func TestAdd(t *testing.T) {
	for _, c := range []struct {
		a    int
		bs   []int
		want int
		ok   bool
	}{
		{7, nil, 7, true},
		{least, nil, least, true},
		{greatest, []int{}, greatest, true},
		{1, []int{2}, 3, true},
		{1, []int{2, 3, -10}, -4, true},
		{greatest, []int{0}, greatest, true},
		{greatest, []int{1}, 0, false},
		{greatest, []int{greatest}, 0, false},
		{greatest, []int{least}, -1, true},
		{greatest - 1, []int{1}, greatest, true},
		{least, []int{0}, least, true},
		{least, []int{-1}, 0, false},
		{least, []int{least}, 0, false},
		{least + 1, []int{-1}, least, true},
		// The whole sum fits, but an intermediate one does not.
		{greatest, []int{1, -1}, 0, false},
		{least, []int{-1, 1}, 0, false},
		{0, []int{greatest, 1, -2}, 0, false},
		{0, []int{least, least, greatest, greatest, 2}, 0, false},
		// The same terms in an order in which every sum fits.
		{greatest, []int{-1, 1}, greatest, true},
		{0, []int{greatest, -2, 1}, greatest - 1, true},
		{0, []int{least, greatest, 1, greatest, least}, -1, true},
		// Only the last sum does not fit.
		{1, []int{2, 3, greatest}, 0, false},
	} {
		if n, ok := Add(c.a, c.bs...); n != c.want || ok != c.ok {
			t.Errorf("P1.2: Add(%d, %v) = %d, %v, want %d, %v", c.a, c.bs, n, ok, c.want, c.ok)
		}
	}
}

// bigAdd is Add by big numbers.
func bigAdd(a int, bs ...int) (int, bool) {
	sum := big.NewInt(int64(a))
	for _, b := range bs {
		sum.Add(sum, big.NewInt(int64(b)))
		if !sum.IsInt64() {
			return 0, false
		}
	}
	return fits(sum)
}

func TestAddAndSubOfEdges(t *testing.T) {
	for _, a := range edges() {
		for _, b := range edges() {
			want, valid := bigAdd(a, b)
			if n, ok := Add(a, b); n != want || ok != valid {
				t.Errorf("P1.2: Add(%d, %d) = %d, %v, want %d, %v", a, b, n, ok, want, valid)
			}
			want, valid = fits(new(big.Int).Sub(big.NewInt(int64(a)), big.NewInt(int64(b))))
			if n, ok := Sub(a, b); n != want || ok != valid {
				t.Errorf("P1.2: Sub(%d, %d) = %d, %v, want %d, %v", a, b, n, ok, want, valid)
			}
			for _, c := range edges() {
				want, valid := bigAdd(a, b, c)
				if n, ok := Add(a, b, c); n != want || ok != valid {
					t.Errorf("P1.2: Add(%d, %d, %d) = %d, %v, want %d, %v", a, b, c, n, ok, want, valid)
				}
			}
		}
	}
}

func TestAddLeavesItsArguments(t *testing.T) {
	back := []int{5, 6, 7, 8, 9}
	for _, bs := range [][]int{back[:3], back[1:2], back} {
		Add(greatest-10, bs...)
		Add(1, bs...)
	}
	if !slices.Equal(back, []int{5, 6, 7, 8, 9}) {
		t.Errorf("Add changed its arguments: %v", back)
	}
}

func TestSub(t *testing.T) {
	for _, c := range []struct {
		a, b, want int
		ok         bool
	}{
		{1, 2, -1, true},
		{5, -3, 8, true},
		{0, 0, 0, true},
		{least, 0, least, true},
		{least, 1, 0, false},
		{least, greatest, 0, false},
		{least, least, 0, true},
		{least + 1, 1, least, true},
		{0, least, 0, false},
		{-1, least, greatest, true},
		{0, greatest, -greatest, true},
		{-1, greatest, least, true},
		{-2, greatest, 0, false},
		{greatest, -1, 0, false},
		{greatest, least, 0, false},
		{greatest, 0, greatest, true},
		{greatest - 1, -1, greatest, true},
		{greatest, greatest, 0, true},
	} {
		if n, ok := Sub(c.a, c.b); n != c.want || ok != c.ok {
			t.Errorf("P1.2: Sub(%d, %d) = %d, %v, want %d, %v", c.a, c.b, n, ok, c.want, c.ok)
		}
	}
}

// --- P1.3: Place and Span

func TestPlace(t *testing.T) {
	for _, c := range []struct {
		i, n, want int
		ok         bool
	}{
		{0, 3, 0, true},
		{2, 3, 2, true},
		{3, 3, 0, false},
		{-1, 3, 2, true},
		{-3, 3, 0, true},
		{-4, 3, 0, false},
		{0, 1, 0, true},
		{-1, 1, 0, true},
		{0, 0, 0, false},
		{-1, 0, 0, false},
		{0, -1, 0, false},
		{-1, -1, 0, false},
		{-5, -5, 0, false},
		{-2, -5, 0, false},
		{5, -5, 0, false},
		{0, least, 0, false},
		{-1, least, 0, false},
		{least, least, 0, false},
		{greatest, least, 0, false},
		{least, 3, 0, false},
		{greatest, 3, 0, false},
		{greatest, greatest, 0, false},
		{greatest - 1, greatest, greatest - 1, true},
		{-1, greatest, greatest - 1, true},
		{-greatest, greatest, 0, true},
		{least, greatest, 0, false},
	} {
		if at, ok := Place(c.i, c.n); at != c.want || ok != c.ok {
			t.Errorf("P1.3: Place(%d, %d) = %d, %v, want %d, %v", c.i, c.n, at, ok, c.want, c.ok)
		}
	}
}

func TestSpan(t *testing.T) {
	for _, c := range [][5]int{
		// start, stop, n: first, after
		{-3, -1, 5, 2, 5},
		{0, 99, 5, 0, 5},
		{3, 1, 5, 0, 0},
		{0, -1, 5, 0, 5},
		{1, 3, 5, 1, 4},
		{2, 2, 5, 2, 3},
		{4, 4, 5, 4, 5},
		{-5, -5, 5, 0, 1},
		{-1, -1, 5, 4, 5},
		{-99, 1, 5, 0, 2},
		{-6, -4, 5, 0, 2},
		{-99, 99, 5, 0, 5},
		// Empty ranges: nothing between, or all of it outside.
		{2, 1, 5, 0, 0},
		{4, -2, 5, 0, 0},
		{-1, -2, 5, 0, 0},
		{5, 5, 5, 0, 0},
		{5, 99, 5, 0, 0},
		{0, -6, 5, 0, 0},
		{-99, -6, 5, 0, 0},
		{99, -99, 5, 0, 0},
		// No elements.
		{0, 0, 0, 0, 0},
		{0, -1, 0, 0, 0},
		{-1, 0, 0, 0, 0},
		{-1, -1, 0, 0, 0},
		{1, 1, -4, 0, 0},
		{-3, -1, -4, 0, 0},
		{-9, 9, -4, 0, 0},
		{0, 0, least, 0, 0},
		{least, greatest, least, 0, 0},
		// As far out as numbers go.
		{least, greatest, 3, 0, 3},
		{greatest, least, 3, 0, 0},
		{least, least, 3, 0, 0},
		{greatest, greatest, 3, 0, 0},
		{least, greatest, greatest, 0, greatest},
		{0, -1, greatest, 0, greatest},
		{-1, greatest, greatest, greatest - 1, greatest},
		{greatest, greatest, greatest, 0, 0},
		{least, -greatest, greatest, 0, 1},
		{least, least, greatest, 0, 0},
	} {
		if first, after := Span(c[0], c[1], c[2]); first != c[3] || after != c[4] {
			t.Errorf("P1.3: Span(%d, %d, %d) = %d, %d, want %d, %d", c[0], c[1], c[2], first, after, c[3], c[4])
		}
	}
}

// ranks are the numbers by which element at of n may be named.
func ranks(at, n int) (front, back int) { return at, at - n }

// TestPlaceOfSmallLists looks an index up among the names of all elements.
func TestPlaceOfSmallLists(t *testing.T) {
	for n := -2; n <= 6; n++ {
		for i := -9; i <= 9; i++ {
			want, found := 0, false
			for at := range max(n, 0) {
				if front, back := ranks(at, n); i == front || i == back {
					want, found = at, true
				}
			}
			if at, ok := Place(i, n); at != want || ok != found {
				t.Errorf("P1.3: Place(%d, %d) = %d, %v, want %d, %v", i, n, at, ok, want, found)
			}
		}
	}
}

// TestSpanOfSmallLists asks of each element whether it lies in the range.
func TestSpanOfSmallLists(t *testing.T) {
	within := func(at, start, stop, n int) bool {
		front, back := ranks(at, n)
		begun := start >= 0 && front >= start || start < 0 && back >= start
		ended := stop >= 0 && front > stop || stop < 0 && back > stop
		return begun && !ended
	}
	for n := -2; n <= 6; n++ {
		for start := -9; start <= 9; start++ {
			for stop := -9; stop <= 9; stop++ {
				var in []int
				for at := range max(n, 0) {
					if within(at, start, stop, n) {
						in = append(in, at)
					}
				}
				first, after := 0, 0
				if len(in) > 0 {
					first, after = in[0], in[len(in)-1]+1
				}
				if f, a := Span(start, stop, n); f != first || a != after {
					t.Errorf("P1.3: Span(%d, %d, %d) = %d, %d, want %d, %d", start, stop, n, f, a, first, after)
				}
			}
		}
	}
}

// --- The sections of DOC.md: no call panics

func TestNoCallPanics(t *testing.T) {
	for _, a := range edges() {
		for _, b := range edges() {
			for _, n := range edges() {
				if first, after := Span(a, b, n); first < 0 || first > after || after > max(n, 0) {
					t.Errorf("Span(%d, %d, %d) = %d, %d", a, b, n, first, after)
				}
			}
			if at, ok := Place(a, b); at < 0 || ok && at >= b {
				t.Errorf("Place(%d, %d) = %d, %v", a, b, at, ok)
			}
		}
	}
}
