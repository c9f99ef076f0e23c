package str

import (
	"bytes"
	"fmt"
	"math"
	"math/big"
	"math/rand"
	"slices"
	"strconv"
	"strings"
	"testing"
	"unsafe"

	"pentimento/api"
)

// --- strings, numbers and the chapter's words

// zeros are n zero bytes.
func zeros(n int) string { return strings.Repeat("\x00", n) }

// noise are n bytes that hang on the seed, among them all values.
func noise(seed, n int) string {
	b := make([]byte, n)
	for i := range b {
		b[i] = byte(seed*89 + i*7 + i/256*31)
	}
	return string(b)
}

// texts are strings of up to that many of the given bytes.
func texts(most int, of ...byte) []string {
	all := []string{""}
	last := all
	for range most {
		var next []string
		for _, s := range last {
			for _, b := range of {
				next = append(next, s+string([]byte{b}))
			}
		}
		all = append(all, next...)
		last = next
	}
	return all
}

// samples are strings of all sorts.
func samples() []string {
	return append(texts(3, 0, 1, 0x80, 0xff), "hello", "h\u00e9llo\u20ac", "\xc3", "\u4e16\u754c", "0123456789abcdef", noise(1, 17), noise(2, 255), noise(3, 256), noise(4, 257), zeros(40), strings.Repeat("\xff", 41))
}

// indices are those about a string of n bytes, and the least and the greatest.
func indices(n int) []int {
	all := []int{math.MinInt, math.MinInt + 1, math.MinInt + n, -1 << 32, 1 << 32, math.MaxInt - n, math.MaxInt - 1, math.MaxInt}
	for i := -n - 3; i <= n+3; i++ {
		all = append(all, i)
	}
	return all
}

// edges are numbers about which forms and sums change their nature.
func edges() []int {
	return []int{math.MinInt, math.MinInt + 1, math.MinInt + 2, math.MinInt/2 - 1, math.MinInt / 2, -1 << 32, -1001, -100, -99, -11, -10, -9, -2, -1, 0, 1, 2, 9, 10, 11, 99, 100, 1001, 1 << 32, 1 << 53, math.MaxInt / 2, math.MaxInt/2 + 1, math.MaxInt - 2, math.MaxInt - 1, math.MaxInt}
}

// spot is an index from the beginning, of one that may count from the end.
func spot(i, n int) int {
	if i < 0 {
		return i + n
	}
	return i
}

// between are the bytes of s from start to stop, by the chapter's words.
func between(s string, start, stop int) string {
	var b []byte
	for i := range len(s) {
		if i >= spot(start, len(s)) && i <= spot(stop, len(s)) {
			b = append(b, s[i])
		}
	}
	return string(b)
}

// laid is s with t in it, by the chapter's words.
func laid(s string, at int, t string) (string, api.Errno) {
	if at < 0 {
		return "", api.ErrArg
	}
	if t == "" {
		return s, api.OK
	}
	end := new(big.Int).Add(big.NewInt(int64(at)), big.NewInt(int64(len(t))))
	if len(s) > 4096 || end.Cmp(big.NewInt(4096)) > 0 {
		return "", api.ErrLong
	}
	b := []byte(s)
	for len(b) < at {
		b = append(b, 0)
	}
	for i := range len(t) {
		if at+i < len(b) {
			b[at+i] = t[i]
		} else {
			b = append(b, t[i])
		}
	}
	return string(b), api.OK
}

// digits are the bits of s, each a '0' or a '1'.
func digits(s string) []byte {
	var b []byte
	for i := range len(s) {
		b = fmt.Appendf(b, "%08b", s[i])
	}
	return b
}

// packed is the string that has these bits.
func packed(t *testing.T, digits []byte) string {
	t.Helper()
	var b []byte
	for len(digits) > 0 {
		n, err := strconv.ParseUint(string(digits[:8]), 2, 8)
		if err != nil {
			t.Fatal(err)
		}
		b = append(b, byte(n))
		digits = digits[8:]
	}
	return string(b)
}

// digit is a bit as a number.
func digit(digits []byte, at int) int {
	if at < 0 || at >= len(digits) {
		return 0
	}
	return int(digits[at] - '0')
}

// --- P9.1: Append

// appends asks for a result of Append.
func appends(t *testing.T, want string, e api.Errno, s string, ts ...string) {
	t.Helper()
	if got, ge := Append(s, ts...); got != want || ge != e {
		t.Errorf("P9.1: Append(%.20q and %d texts of %.80q) = %.40q of %d bytes, %d, want %.40q of %d bytes, %d", s, len(ts), ts, got, len(got), ge, want, len(want), e)
	}
}

func TestAppendOfFewTexts(t *testing.T) {
	appends(t, "", api.OK, "")
	appends(t, "ab", api.OK, "ab")
	appends(t, "ab", api.OK, "ab", []string{}...)
	appends(t, "", api.OK, "", "")
	appends(t, "", api.OK, "", "", "", "")
	appends(t, "ab", api.OK, "ab", "", "")
	appends(t, "abc", api.OK, "ab", "c")
	appends(t, "c", api.OK, "", "c")
	appends(t, "abcde", api.OK, "ab", "", "cd", "", "e")
	appends(t, "a\x00\xff\xc3\u00e9", api.OK, "a", "\x00", "\xff", "\xc3", "\u00e9")
	for _, s := range texts(3, 0, 'a', 0xff) {
		for _, x := range texts(2, 0, 'a', 0xff) {
			appends(t, s+x, api.OK, s, x)
			for _, y := range texts(1, 0, 'a', 0xff) {
				appends(t, s+x+y, api.OK, s, x, y)
				appends(t, s+y+x+y, api.OK, s, y, x, y)
			}
		}
	}
}

func TestAppendOfLongTexts(t *testing.T) {
	const most = 4096
	for _, first := range []int{0, 1, 2, 2047, 2048, 2049, most - 2, most - 1, most} {
		s, x := noise(1, first), noise(2, most-first)
		appends(t, s+x, api.OK, s, x)
		appends(t, s+x, api.OK, s, x, "", "")
		appends(t, "", api.ErrLong, s, x+"x")
		appends(t, "", api.ErrLong, s, x, "x")
		appends(t, "", api.ErrLong, s, "x", x)
		appends(t, "", api.ErrLong, s+"x", x)
		// Each text alone would fit.
		half := x[:len(x)/2]
		appends(t, s+half+x[len(half):], api.OK, s, half, x[len(half):])
		appends(t, "", api.ErrLong, s, half, x[len(half):], "x")
		appends(t, "", api.ErrLong, s, half, "x", x[len(half):])
	}
	appends(t, "", api.ErrLong, noise(1, most+1))
	appends(t, "", api.ErrLong, noise(1, most+1), "")
	appends(t, "", api.ErrLong, noise(1, 1<<20), noise(2, 1<<20))
	appends(t, noise(1, most), api.OK, noise(1, most))
	var single []string
	for _, b := range []byte(noise(5, most)) {
		single = append(single, string([]byte{b}))
	}
	appends(t, noise(5, most), api.OK, "", single...)
	appends(t, "", api.ErrLong, "x", single...)
	appends(t, "", api.ErrLong, "", append(single, "x")...)
	appends(t, "ab", api.OK, "a", append(make([]string, 100000), "b")...)
	appends(t, "", api.ErrLong, "", slices.Repeat([]string{noise(1, most)}, 1000)...)
}

// --- P9.1: Range

func TestRange(t *testing.T) {
	for _, c := range []struct {
		s           string
		start, stop int
		want        string
	}{
		{"hello", 0, -1, "hello"},
		{"hello", 0, 4, "hello"},
		{"hello", 0, 0, "h"},
		{"hello", 4, 4, "o"},
		{"hello", -1, -1, "o"},
		{"hello", -5, -5, "h"},
		{"hello", 1, 3, "ell"},
		{"hello", -3, -2, "ll"},
		{"hello", 1, -2, "ell"},
		{"hello", -4, 3, "ell"},
		{"hello", 3, 1, ""},
		{"hello", -1, -2, ""},
		{"hello", 5, 5, ""},
		{"hello", 5, 9, ""},
		{"hello", 4, 9, "o"},
		{"hello", -9, 0, "h"},
		{"hello", -9, -6, ""},
		{"hello", -6, -5, "h"},
		{"hello", math.MinInt, math.MaxInt, "hello"},
		{"hello", math.MaxInt, math.MinInt, ""},
		{"hello", math.MinInt, math.MinInt, ""},
		{"hello", math.MaxInt, math.MaxInt, ""},
		{"hello", 2, math.MaxInt, "llo"},
		{"hello", math.MinInt, 1, "he"},
		{"", 0, 0, ""},
		{"", 0, -1, ""},
		{"", -1, 0, ""},
		{"", math.MinInt, math.MaxInt, ""},
		{"h\u00e9", 1, 1, "\xc3"},
		{"a\x00\xffb", 1, 2, "\x00\xff"},
	} {
		if got := Range(c.s, c.start, c.stop); got != c.want {
			t.Errorf("P9.1: Range(%q, %d, %d) = %q, want %q", c.s, c.start, c.stop, got, c.want)
		}
	}
}

func TestRangeByTheWords(t *testing.T) {
	for _, s := range []string{"", "a", "ab", "\x00\xffc", "hello", "h\u00e9llo", noise(1, 20)} {
		for _, start := range indices(len(s)) {
			for _, stop := range indices(len(s)) {
				if got, want := Range(s, start, stop), between(s, start, stop); got != want {
					t.Errorf("P9.1: Range(%q, %d, %d) = %q, want %q", s, start, stop, got, want)
				}
			}
		}
	}
	// No bound is named for the string of a range.
	for _, n := range []int{4095, 4096, 4097, 100000} {
		if s := noise(1, n); Range(s, 0, -1) != s || Range(s, 1, n) != s[1:] || Range(s, n-2, math.MaxInt) != s[n-2:] {
			t.Errorf("P9.1: Range of %d bytes", n)
		}
	}
}

// --- P9.1: Lay

// lays asks for a result of Lay.
func lays(t *testing.T, s string, at int, x, want string, e api.Errno) {
	t.Helper()
	if got, ge := Lay(s, at, x); got != want || ge != e {
		t.Errorf("P9.1: Lay(%.40q of %d bytes, %d, %.40q of %d bytes) = %.40q of %d bytes, %d, want %.40q of %d bytes, %d", s, len(s), at, x, len(x), got, len(got), ge, want, len(want), e)
	}
}

func TestLay(t *testing.T) {
	lays(t, "Hello", 6, "x", "Hello\x00x", api.OK) // the chapter's example
	lays(t, "Hello", 5, "x", "Hellox", api.OK)
	lays(t, "Hello", 4, "x", "Hellx", api.OK)
	lays(t, "Hello", 0, "x", "xello", api.OK)
	lays(t, "Hello", 1, "ipp", "Hippo", api.OK)
	lays(t, "Hello", 3, "ping", "Helping", api.OK)
	lays(t, "Hello", 0, "World", "World", api.OK)
	lays(t, "Hello", 0, "Worlds", "Worlds", api.OK)
	lays(t, "", 0, "x", "x", api.OK)
	lays(t, "", 3, "x", "\x00\x00\x00x", api.OK)
	lays(t, "ab", 4, "c\x00", "ab\x00\x00c\x00", api.OK)
	lays(t, "h\u00e9", 2, "\x00", "h\xc3\x00", api.OK)
}

func TestLayOfNothing(t *testing.T) {
	for _, s := range append(samples(), noise(1, 4095), noise(1, 4096), noise(1, 4097), noise(1, 100000)) {
		for _, at := range []int{0, 1, 2, 5, len(s), len(s) + 1, 4095, 4096, 4097, 1 << 32, math.MaxInt - 1, math.MaxInt} {
			lays(t, s, at, "", s, api.OK)
		}
		for _, at := range []int{-1, -2, -5, -len(s) - 1, -4096, -1 << 32, math.MinInt + 1, math.MinInt} {
			lays(t, s, at, "", "", api.ErrArg)
		}
	}
}

func TestLayBelowZero(t *testing.T) {
	for _, s := range []string{"", "a", "Hello", noise(1, 4096), noise(1, 4097)} {
		for _, at := range []int{-1, -2, -5, -4096, -4097, -1 << 32, math.MinInt + 1, math.MinInt} {
			// It comes first, also where the result would be too long.
			for _, x := range []string{"x", "Hello", noise(2, 4096), noise(2, 4097), noise(2, 100000)} {
				lays(t, s, at, x, "", api.ErrArg)
			}
		}
	}
}

func TestLayOfLongTexts(t *testing.T) {
	const most = 4096
	for _, size := range []int{1, 2, 3, 100, most - 1, most} {
		x := noise(2, size)
		for _, s := range []string{"", "a", noise(1, most/2), noise(1, most-1), noise(1, most)} {
			lays(t, s, most-size, x, (s + zeros(most))[:most-size]+x, api.OK)
			for _, at := range []int{most - size + 1, most - 1, most, most + 1, 2 * most, 1 << 32, 1 << 62, math.MaxInt - most, math.MaxInt - size, math.MaxInt - size + 1, math.MaxInt - 1, math.MaxInt} {
				if at > most-size {
					lays(t, s, at, x, "", api.ErrLong)
				}
			}
		}
		// What is too long already stays so.
		for _, n := range []int{most + 1, most + 2, 100000} {
			for _, at := range []int{0, 1, most - size, most, n, math.MaxInt} {
				lays(t, noise(1, n), at, x, "", api.ErrLong)
			}
		}
	}
	for _, at := range []int{0, 1, most, math.MaxInt} {
		lays(t, "", at, noise(2, most+1), "", api.ErrLong)
		lays(t, noise(1, most), at, noise(2, most+1), "", api.ErrLong)
		lays(t, "abc", at, noise(2, 1<<20), "", api.ErrLong)
	}
}

func TestLayByTheWords(t *testing.T) {
	for _, s := range append(texts(4, 0, 'a'), samples()...) {
		for _, x := range []string{"", "b", "\x00", "bc", "b\x00\xff", noise(3, 18)} {
			for _, at := range []int{math.MinInt, -2, -1, 0, 1, 2, 3, 4, 5, 6, 7, len(s) - 1, len(s), len(s) + 1, len(s) + 9, 4094, 4095, 4096, math.MaxInt} {
				want, e := laid(s, at, x)
				lays(t, s, at, x, want, e)
			}
		}
	}
	r := rand.New(rand.NewSource(9))
	for range 20000 {
		s, x := noise(r.Int(), r.Intn(4100)), noise(r.Int(), r.Intn(1<<r.Intn(13)))
		at := r.Intn(1 << r.Intn(13))
		want, e := laid(s, at, x)
		lays(t, s, at, x, want, e)
	}
}

// --- P9.2: Incr

// incrs asks for a result of Incr.
func incrs(t *testing.T, s string, by, want int, e api.Errno) {
	t.Helper()
	if got, ge := Incr(s, by); got != want || ge != e {
		t.Errorf("P9.2: Incr(%.40q, %d) = %d, %d, want %d, %d", s, by, got, ge, want, e)
	}
}

func TestIncr(t *testing.T) {
	incrs(t, "41", 1, 42, api.OK) // the chapter's example
	incrs(t, "10", -11, -1, api.OK)
	incrs(t, "-10", 11, 1, api.OK)
	incrs(t, "-1", -1, -2, api.OK)
	incrs(t, "9223372036854775807", 0, math.MaxInt, api.OK)
	incrs(t, "9223372036854775806", 1, math.MaxInt, api.OK)
	incrs(t, "9223372036854775807", 1, 0, api.ErrOver)
	incrs(t, "9223372036854775806", 2, 0, api.ErrOver)
	incrs(t, "1", math.MaxInt, 0, api.ErrOver)
	incrs(t, "0", math.MaxInt, math.MaxInt, api.OK)
	incrs(t, "9223372036854775807", math.MaxInt, 0, api.ErrOver)
	incrs(t, "-9223372036854775808", 0, math.MinInt, api.OK)
	incrs(t, "-9223372036854775807", -1, math.MinInt, api.OK)
	incrs(t, "-9223372036854775808", -1, 0, api.ErrOver)
	incrs(t, "-1", math.MinInt, 0, api.ErrOver)
	incrs(t, "0", math.MinInt, math.MinInt, api.OK)
	incrs(t, "-9223372036854775808", math.MinInt, 0, api.ErrOver)
	incrs(t, "-9223372036854775808", math.MaxInt, -1, api.OK)
	incrs(t, "9223372036854775807", math.MinInt, -1, api.OK)
}

func TestIncrOfAllSums(t *testing.T) {
	for _, by := range edges() {
		incrs(t, "", by, by, api.OK)
		incrs(t, "0", by, by, api.OK)
		for _, n := range edges() {
			sum := new(big.Int).Add(big.NewInt(int64(n)), big.NewInt(int64(by)))
			if sum.IsInt64() {
				incrs(t, fmt.Sprint(n), by, int(sum.Int64()), api.OK)
			} else {
				incrs(t, fmt.Sprint(n), by, 0, api.ErrOver)
			}
		}
	}
}

func TestIncrOfNoNumber(t *testing.T) {
	for _, s := range []string{
		"-", "+", "+1", "+0", "-0", "00", "01", "-01", "--1", "1-", " ", " 1", "1 ", "1 2", "\t1", "1\n", "1\x00", "\x00", "\x001",
		"1_000", "0x10", "1e3", "1.0", "1.", ".1", "1a", "a", "x", "inf", "\u0661", "\xff", "1\xff",
		"9223372036854775808", "-9223372036854775809", "10000000000000000000", "18446744073709551616", "-18446744073709551616", "99999999999999999999999999",
		"09223372036854775807", "+9223372036854775807", zeros(8), strings.Repeat("0", 4096), strings.Repeat("1", 4096), strings.Repeat("1", 4097), "1" + zeros(4095),
	} {
		// What is no number comes first, also where no sum with it could fit.
		for _, by := range edges() {
			incrs(t, s, by, 0, api.ErrForm)
		}
	}
}

// --- P9.3: Bit and SetBit

// sets asks for a result of SetBit.
func sets(t *testing.T, s string, at, bit int, want string, was int, e api.Errno) {
	t.Helper()
	if got, gw, ge := SetBit(s, at, bit); got != want || gw != was || ge != e {
		t.Errorf("P9.3: SetBit(%.40q of %d bytes, %d, %d) = %.40q of %d bytes, %d, %d, want %.40q of %d bytes, %d, %d", s, len(s), at, bit, got, len(got), gw, ge, want, len(want), was, e)
	}
}

func TestBit(t *testing.T) {
	for at, want := range []int{1, 0, 1, 1, 0, 0, 1, 0, 0, 1, 0, 0, 1, 1, 0, 1, 0, 0} {
		if got := Bit("\xb2\x4d", at); got != want {
			t.Errorf("P9.3: Bit(\"\\xb2\\x4d\", %d) = %d, want %d", at, got, want)
		}
	}
	for _, s := range append(samples(), noise(7, 4096), strings.Repeat("\xff", 4097)) {
		bits := digits(s)
		for at := range len(bits) {
			if got, want := Bit(s, at), digit(bits, at); got != want {
				t.Fatalf("P9.3: Bit(%.40q, %d) = %d, want %d", s, at, got, want)
			}
		}
		for _, at := range []int{math.MinInt, math.MinInt + 1, math.MinInt + 7, math.MinInt + 8, -1 << 32, -len(bits), -9, -8, -7, -2, -1, len(bits), len(bits) + 1, len(bits) + 7, len(bits) + 8, 1 << 32, 1 << 62, math.MaxInt - 7, math.MaxInt - 1, math.MaxInt} {
			if got := Bit(s, at); got != 0 {
				t.Errorf("P9.3: Bit(%.40q of %d bytes, %d) = %d, want 0", s, len(s), at, got)
			}
		}
	}
}

func TestSetBit(t *testing.T) {
	sets(t, "", 7, 1, "\x01", 0, api.OK) // the chapter's example
	sets(t, "", 0, 1, "\x80", 0, api.OK)
	sets(t, "", 8, 1, "\x00\x80", 0, api.OK)
	sets(t, "", 15, 1, "\x00\x01", 0, api.OK)
	sets(t, "", 0, 0, "\x00", 0, api.OK)
	sets(t, "", 16, 0, "\x00\x00\x00", 0, api.OK)
	sets(t, "\xf0", 0, 0, "\x70", 1, api.OK)
	sets(t, "\xf0", 0, 1, "\xf0", 1, api.OK)
	sets(t, "\xf0", 7, 1, "\xf1", 0, api.OK)
	sets(t, "\xf0", 7, 0, "\xf0", 0, api.OK)
	sets(t, "\xff\xff", 12, 0, "\xff\xf7", 1, api.OK)
	sets(t, "a", 31, 1, "a\x00\x00\x01", 0, api.OK)
}

func TestSetBitByTheWords(t *testing.T) {
	for _, s := range samples() {
		for at := range 8*len(s) + 27 {
			for bit := range 2 {
				bits := digits(s)
				was := digit(bits, at)
				for at >= len(bits) {
					bits = append(bits, "00000000"...)
				}
				bits[at] = byte('0' + bit)
				sets(t, s, at, bit, packed(t, bits), was, api.OK)
			}
		}
	}
}

func TestSetBitOfNoBit(t *testing.T) {
	for _, s := range []string{"", "a", "\xff\xff", noise(1, 4096), noise(1, 4097)} {
		for _, at := range []int{math.MinInt, math.MinInt + 1, -32768, -9, -8, -7, -1, 0, 1, 7, 8, 32767, 32768, 1 << 32, math.MaxInt} {
			// ErrArg comes first, also where the bit would lie too far behind.
			for _, bit := range []int{math.MinInt, math.MinInt + 1, -256, -2, -1, 2, 3, 8, 255, 256, 257, 1 << 32, math.MaxInt - 1, math.MaxInt} {
				sets(t, s, at, bit, "", 0, api.ErrArg)
			}
			if at < 0 {
				sets(t, s, at, 0, "", 0, api.ErrArg)
				sets(t, s, at, 1, "", 0, api.ErrArg)
			}
		}
	}
}

func TestSetBitFarBehind(t *testing.T) {
	for _, s := range []string{"", "a", noise(1, 4095), noise(1, 4096)} {
		whole := s + zeros(4096-len(s))
		head, last := whole[:4095], whole[4095]
		sets(t, s, 32767, 1, head+string([]byte{last | 1}), int(last&1), api.OK)
		sets(t, s, 32767, 0, head+string([]byte{last &^ 1}), int(last&1), api.OK)
		sets(t, s, 32760, 1, head+string([]byte{last | 0x80}), int(last>>7), api.OK)
		for _, at := range []int{32768, 32769, 32775, 32776, 40000, 1 << 32, 1 << 62, math.MaxInt - 7, math.MaxInt - 1, math.MaxInt} {
			sets(t, s, at, 0, "", 0, api.ErrLong)
			sets(t, s, at, 1, "", 0, api.ErrLong)
		}
	}
	// ErrLong is said of the bit, not of the string.
	long := strings.Repeat("\xff", 4098)
	sets(t, long, 32767, 0, long[:4095]+"\xfe\xff\xff", 1, api.OK)
	sets(t, long, 32768, 0, "", 0, api.ErrLong)
}

// --- P9.3: Count and Find

func TestCount(t *testing.T) {
	for _, c := range []struct {
		s                 string
		start, stop, want int
	}{
		{"\xff\x0f\x01", 0, -1, 13},
		{"\xff\x0f\x01", 1, 1, 4},
		{"\xff\x0f\x01", -1, -1, 1},
		{"\xff\x0f\x01", -2, 9, 5},
		{"\xff\x0f\x01", 2, 1, 0},
		{"\xff\x0f\x01", 3, 3, 0},
		{"\xff\x0f\x01", math.MinInt, math.MaxInt, 13},
		{"\xff\x0f\x01", math.MinInt, 0, 8},
		{"\xff\x0f\x01", math.MaxInt, math.MinInt, 0},
		{"\x00\x00", 0, -1, 0},
		{"", 0, -1, 0},
		{"", math.MinInt, math.MaxInt, 0},
		{noise(1, 256), 0, -1, 1024}, // each value once
		{strings.Repeat("\xff", 4096), 0, -1, 32768},
		{strings.Repeat("\xff", 5000), 1, -2, 39984},
	} {
		if got := Count(c.s, c.start, c.stop); got != c.want {
			t.Errorf("P9.3: Count(%.20q, %d, %d) = %d, want %d", c.s, c.start, c.stop, got, c.want)
		}
	}
}

func TestCountByTheWords(t *testing.T) {
	for b := range 256 {
		s := "\xff" + string([]byte{byte(b)}) + "\xff"
		if got, want := Count(s, 1, 1), strings.Count(fmt.Sprintf("%b", b), "1"); got != want {
			t.Errorf("P9.3: Count(%q, 1, 1) = %d, want %d", s, got, want)
		}
	}
	for _, s := range []string{"", "\x01", "a\xff", "h\u00e9llo", noise(1, 20)} {
		for _, start := range indices(len(s)) {
			for _, stop := range indices(len(s)) {
				want := bytes.Count(digits(between(s, start, stop)), []byte("1"))
				if got := Count(s, start, stop); got != want {
					t.Errorf("P9.3: Count(%q, %d, %d) = %d, want %d", s, start, stop, got, want)
				}
			}
		}
	}
}

// finds asks for a result of Find.
func finds(t *testing.T, s string, bit, want int) {
	t.Helper()
	if got := Find(s, bit); got != want {
		t.Errorf("P9.3: Find(%.40q of %d bytes, %d) = %d, want %d", s, len(s), bit, got, want)
	}
}

func TestFind(t *testing.T) {
	finds(t, "\xff\xf0", 0, 12)
	finds(t, "\x00\x10", 1, 11)
	finds(t, "\xfe", 0, 7)
	finds(t, "\x01", 1, 7)
	finds(t, "\x7f", 0, 0)
	finds(t, "\x80", 1, 0)
	finds(t, "\xff", 0, -1)
	finds(t, "\x00", 1, -1)
	finds(t, "\xff", 1, 0)
	finds(t, "\x00", 0, 0)
	finds(t, "", 0, -1)
	finds(t, "", 1, -1)
	// No zero is found beyond the end.
	finds(t, strings.Repeat("\xff", 4096), 0, -1)
	finds(t, zeros(4096), 1, -1)
	finds(t, strings.Repeat("\xff", 4095)+"\xfe", 0, 32767)
	finds(t, zeros(4095)+"\x01", 1, 32767)
	finds(t, zeros(9000)+"\x40", 1, 72001)
	for _, s := range samples() {
		finds(t, s, 0, bytes.IndexByte(digits(s), '0'))
		finds(t, s, 1, bytes.IndexByte(digits(s), '1'))
		for _, bit := range []int{math.MinInt, -256, -255, -2, -1, 2, 3, 48, 49, 255, 256, 257, 1 << 32, 1<<32 + 1, math.MaxInt} {
			finds(t, s, bit, -1)
		}
	}
	for b := range 256 {
		for _, before := range []int{0, 1, 5} {
			s := string([]byte{byte(b)})
			for bit, same := range []string{"\xff", "\x00"} {
				whole := strings.Repeat(same, before) + s
				finds(t, whole, bit, bytes.IndexByte(digits(whole), byte('0'+bit)))
			}
		}
	}
}

// --- P9.4

func TestWhatWasLaidIsReadBack(t *testing.T) {
	r := rand.New(rand.NewSource(4))
	s := ""
	for i := range 2000 {
		at, x := r.Intn(300), noise(i, 1+r.Intn(20))
		next, e := Lay(s, at, x)
		if e != api.OK || Range(next, at, at+len(x)-1) != x {
			t.Fatalf("P9.4: Lay(%q, %d, %q) = %q, %d, which does not have it there", s, at, x, next, e)
		}
		old := s + zeros(max(0, at-len(s)))
		if next[:at] != old[:at] || len(next) != max(len(s), at+len(x)) || len(next) > at+len(x) && next[at+len(x):] != old[at+len(x):] {
			t.Fatalf("P9.4: Lay(%q, %d, %q) = %q, which is not as before elsewhere", s, at, x, next)
		}
		s = next
	}
}

func TestBitsThatWereSetAreReadBack(t *testing.T) {
	r := rand.New(rand.NewSource(5))
	s, model := "", make([]int, 400)
	for range 3000 {
		at, bit := r.Intn(len(model)), r.Intn(2)
		next, was, e := SetBit(s, at, bit)
		if e != api.OK || was != model[at] || len(next) != max(len(s), at/8+1) {
			t.Fatalf("P9.4: SetBit(%q, %d, %d) = %q, %d, %d, want %d, OK", s, at, bit, next, was, e, model[at])
		}
		model[at] = bit
		for i, want := range model {
			if Bit(next, i) != want {
				t.Fatalf("P9.4: SetBit(%q, %d, %d) = %q, of which bit %d is not %d", s, at, bit, next, i, want)
			}
		}
		if Count(next, 0, -1) != len(model)-bytes.Count(fmt.Append(nil, model), []byte("0")) || slices.Index(model, 1) != Find(next, 1) {
			t.Fatalf("P9.4: Count or Find of %q", next)
		}
		s = next
	}
}

// overlap tells whether two strings share memory.
func overlap(s, t string) bool {
	if s == "" || t == "" {
		return false
	}
	a, b := uintptr(unsafe.Pointer(unsafe.StringData(s))), uintptr(unsafe.Pointer(unsafe.StringData(t)))
	return a < b+uintptr(len(t)) && b < a+uintptr(len(s))
}

func TestResultsAreNewMemory(t *testing.T) {
	s, x := noise(1, 64), noise(2, 64)
	results := func() []string {
		var all []string
		keep := func(s string, e api.Errno) {
			if e != api.OK || len(s) < 2 {
				t.Fatalf("P9.4: %q, %d", s, e)
			}
			all = append(all, s)
		}
		keep(Append(s))
		keep(Append(s, ""))
		keep(Append("", x))
		keep(Append("", "", x, ""))
		keep(Append(s, x))
		keep(Range(s, 0, -1), api.OK)
		keep(Range(s, 3, 9), api.OK)
		keep(Lay(s, 3, ""))
		keep(Lay(s, 0, x))
		keep(Lay("", 0, x))
		keep(Lay(s, 10, x))
		keep(Lay(s, 10, s[10:20]))
		for _, at := range []int{0, 9, 600} {
			for bit := range 2 {
				got, _, e := SetBit(s, at, bit)
				keep(got, e)
			}
		}
		return all
	}
	all := append(results(), results()...)
	for i, a := range all {
		if overlap(a, s) || overlap(a, x) {
			t.Errorf("P9.4: result %d shares memory with an argument", i)
		}
		for j, b := range all[:i] {
			if overlap(a, b) {
				t.Errorf("P9.4: result %d shares memory with result %d", i, j)
			}
		}
	}
}

func TestArgumentsAreNeitherChangedNorKept(t *testing.T) {
	s, x := noise(1, 64), noise(2, 64)
	oldS, oldX := strings.Clone(s), strings.Clone(x)
	array := []string{"a", x, "b", "spare", "more"}
	ts := array[:3]
	got, e := Append(s, ts...)
	Append(noise(1, 4096), ts...)
	if e != api.OK || !slices.Equal(array, []string{"a", x, "b", "spare", "more"}) {
		t.Errorf("P9.4: Append changes its texts to %q", array)
	}
	clear(array)
	Lay(s, 3, x)
	Lay(s, 100, x)
	SetBit(s, 5, 0)
	SetBit(s, 5, 1)
	SetBit(s, 999, 1)
	Range(s, 1, 2)
	if s != oldS || x != oldX {
		t.Error("P9.4: an argument changes")
	}
	if got != oldS+"a"+oldX+"b" {
		t.Errorf("P9.4: a result changes to %q", got)
	}
}
