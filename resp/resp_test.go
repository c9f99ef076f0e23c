package resp

import (
	"bytes"
	"fmt"
	"math/rand"
	"reflect"
	"regexp"
	"slices"
	"strconv"
	"strings"
	"testing"
	"unsafe"

	"pentimento/api"
)

const (
	least    = -1 << 63
	greatest = 1<<63 - 1
)

// --- replies, and encodings by the chapter's words

// arrayOf is an Array of these elements, which are neither copied nor looked at.
func arrayOf(rs ...api.Reply) api.Reply { return api.Reply{Kind: api.Array, L: rs} }

// nested is r within this number of arrays.
func nested(r api.Reply, arrays int) api.Reply {
	for range arrays {
		r = arrayOf(r)
	}
	return r
}

// form is the encoding of r, valid or not.
func form(r api.Reply) string {
	switch r.Kind {
	case 0:
		return fmt.Sprintf("+%s\r\n", r.S)
	case 1:
		return fmt.Sprintf("-%s\r\n", r.S)
	case 2:
		return fmt.Sprintf(":%d\r\n", r.N)
	case 3:
		return fmt.Sprintf("$%d\r\n%s\r\n", len(r.S), r.S)
	case 4:
		return "$-1\r\n"
	}
	s := fmt.Sprintf("*%d\r\n", len(r.L))
	for _, x := range r.L {
		s += form(x)
	}
	return s
}

var (
	anyLine = regexp.MustCompile("^[^\r\n]*\r\n")
	decimal = regexp.MustCompile("^(0|-?[1-9][0-9]*)$")
)

// slowRead is Read where arrays may be nested deep deep.
func slowRead(s string, deep int) (r api.Reply, n int, ok bool) {
	line := anyLine.FindString(s)
	if len(line) < 3 {
		return api.Reply{}, 0, false
	}
	text := line[1 : len(line)-2]
	number, err := strconv.Atoi(text)
	valid := decimal.MatchString(text) && err == nil
	switch {
	case line[0] == '+':
		return api.Reply{Kind: 0, S: text}, len(line), true
	case line[0] == '-':
		return api.Reply{Kind: 1, S: text}, len(line), true
	case line[0] == ':' && valid:
		return api.Reply{Kind: 2, N: number}, len(line), true
	case line == "$-1\r\n":
		return api.Reply{Kind: 4}, len(line), true
	case line[0] == '$' && valid && number >= 0 && number <= len(s):
		body := s[len(line):]
		if len(body) >= number+2 && body[number] == '\r' && body[number+1] == '\n' {
			return api.Reply{Kind: 3, S: body[:number]}, len(line) + number + 2, true
		}
	case line[0] == '*' && valid && number >= 0 && deep > 0:
		list, at := api.Reply{Kind: 5}, len(line)
		for len(list.L) < number {
			x, size, ok := slowRead(s[at:], deep-1)
			if !ok {
				return api.Reply{}, 0, false
			}
			list.L, at = append(list.L, x), at+size
		}
		return list, at, true
	}
	return api.Reply{}, 0, false
}

// lines are texts that Simple and Fault may have.
func lines() []string {
	return []string{
		"", "a", "OK", "ERR x", " ", "  a b ", "\x00", "\t\v\f", "\xff\xfe", "\u00e9\u2028\u0085", "+", "-", ":", "$", "*",
		"+OK", "-1", ":1", "$-1", "*0", "01", `\r\n`, strings.Repeat("a", 1025), strings.Repeat("b", 100001),
	}
}

// texts are texts that Bulk may have.
func texts() []string {
	all := append(lines(), "\r", "\n", "\r\n", "\n\r", "\r\n\r\n", "a\r\nb", "\r\na", "a\r\n", "+a\r\n", "$1\r\na\r\n", "*1\r\n:1\r\n", "$-1\r\n")
	for _, n := range []int{9, 10, 11, 99, 100, 4096, 4097} {
		all = append(all, strings.Repeat("\r\n", n)[:n])
	}
	whole := make([]byte, 256)
	for b := range whole {
		whole[b] = byte(b)
	}
	return append(all, string(whole))
}

// numbers that Whole may have.
func numbers() []int {
	return []int{0, 1, -1, 7, 9, 10, -9, -10, 1234567890, -1 << 31, 1 << 32, 1<<53 + 1, least, least + 1, greatest - 1, greatest}
}

// leaves are valid replies that are no arrays.
func leaves() []api.Reply {
	all := []api.Reply{{Kind: 4}}
	for _, s := range lines() {
		all = append(all, api.Reply{Kind: 0, S: s}, api.Reply{Kind: 1, S: s})
	}
	for _, n := range numbers() {
		all = append(all, api.Reply{Kind: 2, N: n})
	}
	for _, s := range texts() {
		all = append(all, api.Reply{Kind: 3, S: s})
	}
	return all
}

// some are short valid replies, one of each Kind and more.
func some() []api.Reply {
	return []api.Reply{{Kind: 0, S: "OK"}, {Kind: 1, S: "ERR x"}, {Kind: 2, N: -10}, {Kind: 3, S: "a\r\n"}, {Kind: 3}, {Kind: 4}, {Kind: 5}}
}

// valids are valid replies of many shapes.
func valids() []api.Reply {
	all := leaves()
	all = append(all, arrayOf(), arrayOf(leaves()...), arrayOf(some()...), arrayOf(arrayOf(), arrayOf(), arrayOf()))
	for _, r := range some() {
		for arrays := 1; arrays <= 3; arrays++ {
			all = append(all, nested(r, arrays), arrayOf(r, nested(r, arrays-1), r))
		}
	}
	for _, r := range some()[:6] {
		all = append(all, nested(r, 4), arrayOf(r, arrayOf(r, arrayOf(r, arrayOf(r, r), r), r), r))
	}
	for n := range 13 {
		all = append(all, arrayOf(make([]api.Reply, n)...), arrayOf(slices.Repeat([]api.Reply{{Kind: 3, S: "x"}}, n)...))
	}
	return append(all, arrayOf(make([]api.Reply, 1000)...), nested(arrayOf(), 3))
}

// randomReply is valid, with arrays nested at most deep deep.
func randomReply(r *rand.Rand, deep int) api.Reply {
	kinds := 6
	if deep == 0 {
		kinds = 5
	}
	x := api.Reply{Kind: r.Intn(kinds)}
	text := make([]byte, r.Intn(6))
	for i := range text {
		text[i] = "ab\r\n+-:$*1\x00\xff"[r.Intn(12)]
	}
	switch x.Kind {
	case 0, 1:
		x.S = strings.NewReplacer("\r", "", "\n", "").Replace(string(text))
	case 2:
		x.N = int(r.Uint64()) >> r.Intn(64)
	case 3:
		x.S = string(text)
	case 5:
		for range r.Intn(4) {
			x.L = append(x.L, randomReply(r, deep-1))
		}
	}
	return x
}

// equal holds two replies against each other, and an empty L equals nil.
func equal(a, b api.Reply) bool {
	if a.Kind != b.Kind || a.S != b.S || a.N != b.N || len(a.L) != len(b.L) {
		return false
	}
	for i := range a.L {
		if !equal(a.L[i], b.L[i]) {
			return false
		}
	}
	return true
}

// brief is r as an error message tells it.
func brief(r api.Reply) string { return fmt.Sprintf("%.120q", fmt.Sprintf("%+v", r)) }

// accept asks that r is valid, and for its encoding.
func accept(t *testing.T, r api.Reply) {
	t.Helper()
	if !Right(r) {
		t.Errorf("P4.1: Right(%s) = false", brief(r))
	}
	if got := string(Write(r)); got != form(r) {
		t.Errorf("P4.1: Write(%s) = %.120q, want %.120q", brief(r), got, form(r))
	}
}

// reject asks that r is not valid.
func reject(t *testing.T, r api.Reply) {
	t.Helper()
	if Right(r) {
		t.Errorf("P4.1: Right(%s) = true", brief(r))
	}
	if got := Write(r); len(got) != 0 {
		t.Errorf("P4.1: Write(%s) = %.120q, want nothing", brief(r), got)
	}
}

// reads asks that Read of s returns r and the length n.
func reads(t *testing.T, promise, s string, r api.Reply, n int) {
	t.Helper()
	if got, size, ok := Read([]byte(s)); !ok || size != n || !equal(got, r) {
		t.Errorf("%s: Read(%.120q) = %s, %d, %v, want %s, %d, true", promise, s, brief(got), size, ok, brief(r), n)
	}
}

// refuses asks that Read of s returns the zero value, 0 and false.
func refuses(t *testing.T, s string) {
	t.Helper()
	if got, n, ok := Read([]byte(s)); ok || n != 0 || !equal(got, api.Reply{}) {
		t.Errorf("P4.2: Read(%.120q) = %s, %d, %v, want the zero value, 0, false", s, brief(got), n, ok)
	}
}

// agrees asks that Read of s returns what slowRead does.
func agrees(t *testing.T, s string) {
	t.Helper()
	if r, n, ok := slowRead(s, 4); ok {
		reads(t, "P4.2", s, r, n)
	} else {
		refuses(t, s)
	}
}

// --- P4.1: what makes replies

func TestMakers(t *testing.T) {
	for _, s := range append(texts(), "\r\n+") {
		for kind, got := range map[int]api.Reply{0: Text(s), 1: Wrong(s), 3: Str(s)} {
			if want := (api.Reply{Kind: kind, S: s}); !equal(got, want) {
				t.Errorf("P4.1: %s, want %s", brief(got), brief(want))
			}
		}
	}
	for _, n := range numbers() {
		if got, want := Int(n), (api.Reply{Kind: api.Whole, N: n}); !equal(got, want) {
			t.Errorf("P4.1: Int(%d) = %s", n, brief(got))
		}
	}
	if got := None(); !equal(got, api.Reply{Kind: api.Null}) {
		t.Errorf("P4.1: None() = %s", brief(got))
	}
}

func TestListOfReplies(t *testing.T) {
	all := append(valids(), invalids()...)
	for _, rs := range [][]api.Reply{nil, {}, {{}}, {{Kind: 9}}, {{}, {}}, some(), all, {arrayOf(all...), arrayOf(arrayOf(all...))}} {
		if got, want := List(rs...), arrayOf(rs...); !equal(got, want) {
			t.Errorf("P4.1: List of %d replies = %s, want %s", len(rs), brief(got), brief(want))
		}
	}
	for _, r := range all {
		if got := List(r, Int(1), r); !equal(got, arrayOf(r, api.Reply{Kind: 2, N: 1}, r)) {
			t.Errorf("P4.1: List of %s twice = %s", brief(r), brief(got))
		}
	}
}

func TestStrs(t *testing.T) {
	for _, ss := range [][]string{nil, {}, {""}, {"a"}, {"a", "", "a"}, {"b", "a"}, {"\r\n", "-1"}, texts()} {
		want := api.Reply{Kind: 5}
		for _, s := range ss {
			want.L = append(want.L, api.Reply{Kind: 3, S: s})
		}
		if got := Strs(ss...); !equal(got, want) {
			t.Errorf("P4.1: Strs(%.120q) = %s", ss, brief(got))
		}
		accept(t, Strs(ss...))
	}
}

// --- P4.1: Right, and Write of one reply

func TestExample(t *testing.T) {
	r := List(Str("a"), Int(-1), None())
	const want = "*3\r\n$1\r\na\r\n:-1\r\n$-1\r\n"
	if got := string(Write(r)); got != want {
		t.Errorf("P4.1: Write = %q, want %q", got, want)
	}
	reads(t, "P4.2", want, r, len(want))
}

func TestEncodings(t *testing.T) {
	for want, r := range map[string]api.Reply{
		"+OK\r\n":                     Text("OK"),
		"+\r\n":                       Text(""),
		"-ERR x\r\n":                  Wrong("ERR x"),
		"-\r\n":                       Wrong(""),
		":0\r\n":                      Int(0),
		":-1\r\n":                     Int(-1),
		":9223372036854775807\r\n":    Int(greatest),
		":-9223372036854775808\r\n":   Int(least),
		"$0\r\n\r\n":                  Str(""),
		"$2\r\n\r\n\r\n":              Str("\r\n"),
		"$4\r\na\r\nb\r\n":            Str("a\r\nb"),
		"$2\r\n\xc3\xa9\r\n":          Str("\u00e9"),
		"$10\r\n0123456789\r\n":       Str("0123456789"),
		"$-1\r\n":                     None(),
		"*0\r\n":                      List(),
		"*1\r\n*0\r\n":                List(List()),
		"*2\r\n$1\r\nx\r\n$0\r\n\r\n": Strs("x", ""),
		"*2\r\n*1\r\n:1\r\n+\r\n":     List(List(Int(1)), Text("")),
	} {
		if got := string(Write(r)); got != want {
			t.Errorf("P4.1: Write(%s) = %q, want %q", brief(r), got, want)
		}
		reads(t, "P4.2", want, r, len(want))
	}
}

func TestValidReplies(t *testing.T) {
	for _, r := range valids() {
		accept(t, r)
	}
	// An empty L is none.
	for _, r := range some() {
		r.L = []api.Reply{}
		accept(t, r)
		r.L = make([]api.Reply, 0, 3)
		accept(t, arrayOf(r, r))
	}
}

func TestKindsThatAreNone(t *testing.T) {
	for _, kind := range []int{-1, 6, 7, -6, 10, 255, 256, 257, 1 << 32, 1<<32 + 3, least, greatest} {
		for _, r := range []api.Reply{{}, {S: "a"}, {N: 1}, {L: some()}} {
			r.Kind = kind
			reject(t, r)
			reject(t, arrayOf(r))
		}
	}
}

// TestFieldsOfOtherKinds asks it of each Kind with each choice of fields.
func TestFieldsOfOtherKinds(t *testing.T) {
	mine := []string{"S", "S", "N", "S", "", "L"}
	for kind := range mine {
		for _, fields := range []string{"", "S", "N", "L", "SN", "SL", "NL", "SNL"} {
			for _, n := range []int{1, -1, least, greatest} {
				r := api.Reply{Kind: kind}
				if strings.Contains(fields, "S") {
					r.S = "a"
				}
				if strings.Contains(fields, "N") {
					r.N = n
				}
				if strings.Contains(fields, "L") {
					r.L = []api.Reply{{Kind: 4}}
				}
				if strings.Trim(fields, mine[kind]) == "" {
					accept(t, r)
				} else {
					reject(t, r)
				}
			}
		}
	}
}

func TestEndsOfLinesWithinTexts(t *testing.T) {
	for _, end := range []string{"\r", "\n", "\r\n", "\n\r"} {
		for _, s := range []string{end, "a" + end, end + "a", "a" + end + "b", "\xff" + end, strings.Repeat("a", 100) + end, "\u00e9" + end + "\u00e9"} {
			reject(t, Text(s))
			reject(t, Wrong(s))
			reject(t, List(Int(1), Text(s)))
			reject(t, List(List(Wrong(s))))
			accept(t, Str(s))
			accept(t, List(List(Str(s))))
		}
	}
}

func TestDepth(t *testing.T) {
	for _, r := range some()[:6] {
		for arrays := range 5 {
			accept(t, nested(r, arrays))
		}
		for _, arrays := range []int{5, 6, 7, 100} {
			reject(t, nested(r, arrays))
		}
	}
	accept(t, nested(arrayOf(), 3))
	reject(t, nested(arrayOf(), 4))
	// The deepest of several elements counts, wherever it stands.
	deep, deeper := nested(arrayOf(), 2), nested(arrayOf(), 3)
	accept(t, deeper)
	accept(t, arrayOf(deep, Int(1), deep, arrayOf(), deep))
	reject(t, arrayOf(deeper, deep))
	reject(t, arrayOf(deep, deeper))
	reject(t, arrayOf(Int(1), deep, deeper, Int(1)))
	reject(t, arrayOf(arrayOf(), deeper))
}

// invalids are replies that are not valid, each for one reason.
func invalids() []api.Reply {
	return []api.Reply{
		{Kind: 6}, {Kind: -1, S: "a"}, {Kind: 0, S: "\r"}, {Kind: 0, S: "a\nb"}, {Kind: 1, S: "a\r\n"}, {Kind: 0, S: "a", N: 1},
		{Kind: 1, S: "a", L: some()}, {Kind: 2, S: "1"}, {Kind: 2, N: 1, L: some()}, {Kind: 3, S: "a", N: 1}, {Kind: 3, L: some()},
		{Kind: 4, S: "a"}, {Kind: 4, N: -1}, {Kind: 4, L: some()}, {Kind: 5, S: "a"}, {Kind: 5, N: 1, L: []api.Reply{{}}},
		nested(arrayOf(), 4), nested(Int(1), 5), arrayOf(api.Reply{Kind: 6}), arrayOf(arrayOf(), arrayOf(Int(1), api.Reply{Kind: 4, N: 1})),
	}
}

func TestElementsThatAreNotValid(t *testing.T) {
	for _, bad := range invalids() {
		reject(t, bad)
		for arrays := range 4 {
			for at := range 3 {
				list := slices.Insert([]api.Reply{Str("a"), Int(1)}, at, bad)
				reject(t, nested(arrayOf(list...), arrays))
			}
		}
	}
}

// --- P4.1: Write of several replies

func TestWriteOfNothing(t *testing.T) {
	for _, rs := range [][]api.Reply{nil, {}, {{Kind: 6}}, invalids()} {
		if got := Write(rs...); len(got) != 0 {
			t.Errorf("P4.1: Write of %d replies that are not valid = %q", len(rs), got)
		}
	}
	if got := Write(); len(got) != 0 {
		t.Errorf("P4.1: Write() = %q", got)
	}
}

func TestWriteOfSeveralReplies(t *testing.T) {
	var want string
	for _, r := range valids() {
		want += form(r)
	}
	if got := string(Write(valids()...)); got != want {
		t.Error("P4.1: Write of several replies is not their encodings in order")
	}
	for _, a := range some() {
		for _, b := range some() {
			if got, want := string(Write(a, b, a)), form(a)+form(b)+form(a); got != want {
				t.Errorf("P4.1: Write(%s, %s, the first) = %q, want %q", brief(a), brief(b), got, want)
			}
		}
	}
}

func TestWriteOmitsWhatIsNotValid(t *testing.T) {
	for _, bad := range invalids() {
		for at := range len(some()) + 1 {
			var want string
			for _, r := range some() {
				want += form(r)
			}
			if got := string(Write(slices.Insert(some(), at, bad)...)); got != want {
				t.Errorf("P4.1: Write with %s at %d = %q, want %q", brief(bad), at, got, want)
			}
		}
		if got := string(Write(bad, Int(1), bad, bad, Int(2), bad)); got != ":1\r\n:2\r\n" {
			t.Errorf("P4.1: Write with %s = %q", brief(bad), got)
		}
	}
}

// --- P4.1: Same

func TestSameOfReplies(t *testing.T) {
	all := append(valids(), invalids()...)
	for i, a := range all {
		if !Same(a, a) || !Same(a, List(a).L[0]) {
			t.Errorf("P4.1: Same(%s, the same) = false", brief(a))
		}
		for _, b := range all[i+1:] {
			if want := equal(a, b); Same(a, b) != want || Same(b, a) != want {
				t.Errorf("P4.1: Same(%s, %s) != %v", brief(a), brief(b), want)
			}
		}
	}
}

func TestSameOfRepliesThatDifferInOneField(t *testing.T) {
	base := api.Reply{Kind: 3, S: "ab", N: 5, L: []api.Reply{Str("x"), Int(1)}}
	others := slices.Repeat([]api.Reply{base}, 14)
	others[0].Kind = 5
	others[1].Kind = -3
	others[2].S = "aB"
	others[3].S = "ab\x00"
	others[4].S = "a"
	others[5].S = ""
	others[6].N = -5
	others[7].N = 0
	others[8].N = 5 + 1<<32
	others[9].L = nil
	others[10].L = base.L[:1]
	others[11].L = base.L[1:]
	others[12].L = []api.Reply{Str("x"), Int(2)}
	others[13].L = []api.Reply{Str("x"), Int(1), {}}
	for _, kind := range []int{0, 1, 2, 3, 4, 6, -1} {
		base.Kind = kind
		for i, other := range others {
			if i > 1 {
				other.Kind = kind
			}
			for arrays := range 6 {
				a, b := nested(base, arrays), nested(other, arrays)
				if Same(a, b) || Same(b, a) || !Same(a, a) || !Same(b, b) {
					t.Errorf("P4.1: Same of %s and %s", brief(a), brief(b))
				}
				front, back := arrayOf(a, Int(1)), arrayOf(Int(1), a)
				if Same(front, arrayOf(b, Int(1))) || Same(back, arrayOf(Int(1), b)) || Same(front, back) {
					t.Errorf("P4.1: Same of arrays with %s and %s", brief(a), brief(b))
				}
			}
		}
	}
}

func TestSameOfNilAndEmptyLists(t *testing.T) {
	for kind := -1; kind <= 6; kind++ {
		a, b := api.Reply{Kind: kind}, api.Reply{Kind: kind, L: []api.Reply{}}
		if !Same(a, b) || !Same(b, a) || !Same(arrayOf(a, b), arrayOf(b, a)) {
			t.Errorf("P4.1: Same of an L that is nil and one that is empty, Kind %d", kind)
		}
	}
}

// --- P4.2: Read

func TestReadOfNumbers(t *testing.T) {
	for _, n := range numbers() {
		reads(t, "P4.2", fmt.Sprintf(":%d\r\n", n), Int(n), len(fmt.Sprintf(":%d\r\n", n)))
	}
	for _, s := range []string{
		"", "01", "-01", "00", "+1", "+0", "-0", "-", "+", "--1", " 1", "1 ", " ", "1a", "a", "x1", "0x1", "1e1", "1.0", "1_0", "\x001", "1\x00",
		"9223372036854775808", "-9223372036854775809", "18446744073709551616", "18446744073709551617", "\u0661", "\xff", "1\t", ":1", "$1",
		strings.Repeat("1", 3000), strings.Repeat("0", 3000),
	} {
		refuses(t, ":"+s+"\r\n")
		refuses(t, "*1\r\n:"+s+"\r\n")
		refuses(t, "*2\r\n:1\r\n:"+s+"\r\n")
		// Such a length, with enough behind it for what it might mean.
		for _, mark := range []string{"$", "*"} {
			refuses(t, mark+s+"\r\n")
			refuses(t, mark+s+"\r\n"+"+\r\n\r\n")
			refuses(t, mark+s+"\r\n"+"a\r\n")
			refuses(t, mark+s+"\r\n"+":\r\n:1\r\n")
			refuses(t, "*1\r\n"+mark+s+"\r\n"+strings.Repeat("\r\n", 40))
		}
	}
}

func TestReadOfLengths(t *testing.T) {
	for _, s := range []string{"-2", "-3", "-10", "-11", "-9223372036854775807", "-9223372036854775808"} {
		for _, tail := range []string{"", "\r\n", "a\r\n", "+\r\n", "$-1\r\n"} {
			refuses(t, "$"+s+"\r\n"+tail)
			refuses(t, "*"+s+"\r\n"+tail)
		}
	}
	// Null is of the Bulk's kind alone.
	for _, tail := range []string{"", "\r\n", "+\r\n", "*0\r\n"} {
		refuses(t, "*-1\r\n"+tail)
		reads(t, "P4.2", "$-1\r\n"+tail, None(), 5)
	}
	for _, s := range []string{"9223372036854775807", "9223372036854775806", "9223372036854775805", "9223372036854775800", "4611686018427387904", "2147483648", "4294967297", "1000000000"} {
		for _, tail := range []string{"", "\r\n", "a\r\n", "+\r\n", "+\r\n+\r\n", strings.Repeat("+\r\n", 1000)} {
			refuses(t, "$"+s+"\r\n"+tail)
			refuses(t, "*"+s+"\r\n"+tail)
			refuses(t, "*1\r\n$"+s+"\r\n"+tail)
			refuses(t, "*2\r\n:1\r\n*"+s+"\r\n"+tail)
		}
	}
	// The number of bytes that are there decides, not an end that comes sooner or later.
	for _, s := range []string{"$0\r\na\r\n", "$1\r\n\r\n", "$1\r\nab\r\n", "$2\r\na\r\n", "$3\r\na\r\n", "$4\r\na\r\nb", "$4\r\na\r\nb\r", "$4\r\na\r\nbc\r\n", "$2\r\n\r\n\r", "$2\r\n\r\n"} {
		refuses(t, s)
	}
	reads(t, "P4.2", "$1\r\na\r\nb\r\n", Str("a"), 7)
	reads(t, "P4.2", "$3\r\na\r\n\r\n\r\n", Str("a\r\n"), 9)
	for _, s := range []string{"*1\r\n", "*2\r\n:1\r\n", "*3\r\n:1\r\n:2\r\n", "*1\r\n\r\n", "*2\r\n+\r\n\r\n", "*2\r\n*1\r\n:1\r\n", "*1\r\n*2\r\n:1\r\n", "*1\r\nx", "*1\r\n:1"} {
		refuses(t, s)
	}
	reads(t, "P4.2", "*1\r\n:1\r\n:2\r\n", List(Int(1)), 8)
	reads(t, "P4.2", "*0\r\n:1\r\n", List(), 4)
}

func TestReadOfNothing(t *testing.T) {
	refuses(t, "")
	if r, n, ok := Read(nil); ok || n != 0 || !equal(r, api.Reply{}) {
		t.Errorf("P4.2: Read(nil) = %s, %d, %v", brief(r), n, ok)
	}
}

func TestReadOfFirstBytes(t *testing.T) {
	for b := range 256 {
		first := string([]byte{byte(b)})
		if strings.Contains("+-:$*", first) {
			continue
		}
		for _, tail := range []string{"", "\r\n", "1\r\n", "OK\r\n", "0\r\n\r\n", "+OK\r\n", "-1\r\n", "\r\n+OK\r\n", "\n"} {
			refuses(t, first+tail)
			refuses(t, "*1\r\n"+first+tail)
			refuses(t, "*2\r\n+a\r\n"+first+tail)
		}
	}
}

func TestReadOfEndsOfLines(t *testing.T) {
	for _, end := range []string{"", "\r", "\n", "\n\r", "\r\r", "\n\n", "\r\r\n", "\n\r\n", "\r\x00\n", "\ra", "a\n", " \n", "\r ", "\x00\n", "\r\x00", "\u2028", "\u0085", `\r\n`} {
		for _, s := range []string{"+OK", "-ERR", "+", "-", ":1", "$-1", "*0", "$1\r\na", "$0\r\n", "*1\r\n:1", "*1\r\n$1\r\na", "*2\r\n+a\r\n+b"} {
			refuses(t, s+end)
			refuses(t, s+end+"+OK\r\n"[:2])
		}
		for _, head := range []string{"$1", "*1", "$3", "*1\r\n$1", "*1\r\n*1"} {
			refuses(t, head+end+"+a\r\n")
			refuses(t, head+end+"a\r\n")
		}
	}
	// A CR or an LF within the text of a line.
	for _, s := range []string{"+a\nb\r\n", "+a\rb\r\n", "-a\nb\r\n", "-a\rb\r\n", "+\n\r\n", "+\r\r\n", ":1\n\r\n", ":1\r\r\n", ":\r1\r\n", "$1\n\r\na\r\n", "$\n1\r\na\r\n", "*0\r\r\n", "*\n0\r\n", "*1\r\n+a\nb\r\n", "$-1\n\r\n"} {
		refuses(t, s)
	}
}

func TestReadOfDepth(t *testing.T) {
	for _, r := range []string{"*0\r\n", "*1\r\n:1\r\n", "*2\r\n+a\r\n*0\r\n"} {
		for arrays := range 8 {
			agrees(t, strings.Repeat("*1\r\n", arrays)+r)
			agrees(t, strings.Repeat("*2\r\n:1\r\n", arrays)+r)
			agrees(t, "*2\r\n"+strings.Repeat("*1\r\n", arrays)+r+"*0\r\n")
		}
	}
	reads(t, "P4.2", strings.Repeat("*1\r\n", 3)+"*0\r\n", nested(List(), 3), 16)
	reads(t, "P4.2", strings.Repeat("*1\r\n", 4)+"+\r\n", nested(Text(""), 4), 19)
	refuses(t, strings.Repeat("*1\r\n", 4)+"*0\r\n")
	refuses(t, strings.Repeat("*1\r\n", 5)+"+\r\n")
	refuses(t, strings.Repeat("*1\r\n", 1<<20))
	refuses(t, strings.Repeat("*1\r\n", 1<<20)+"+\r\n")
	refuses(t, strings.Repeat("*2\r\n*1\r\n", 1<<18)+"+\r\n")
}

func TestReadOfBeginnings(t *testing.T) {
	for _, r := range valids() {
		s := form(r)
		for n := range len(s) {
			if len(s) < 1000 || n < 100 || n > len(s)-100 || n%997 == 0 {
				refuses(t, s[:n])
			}
		}
	}
}

// TestReadOfEveryShortInput asks it of all inputs of at most five of these bytes, and of as many or one fewer behind some
// beginnings.
func TestReadOfEveryShortInput(t *testing.T) {
	const signs = "+-:$*01\r\na"
	var try func(s string, more int)
	try = func(s string, more int) {
		agrees(t, s)
		if more > 0 && !t.Failed() {
			for i := range len(signs) {
				try(s+signs[i:i+1], more-1)
			}
		}
	}
	try("", 5)
	for _, mark := range []string{"+", "-", ":", "$", "*"} {
		try(mark, 5)
	}
	for _, head := range []string{"*1\r\n", "*2\r\n+\r\n", "*1\r\n*1\r\n*1\r\n*1\r\n", "$1\r\n", "$2\r\n", "*0\r\n", "*1\r\n$0\r\n", ":1"} {
		try(head, 4)
	}
}

// TestReadOfChangedEncodings changes, takes out and puts in each byte.
func TestReadOfChangedEncodings(t *testing.T) {
	signs := []byte("+-:$*0129\r\na \x00\xff")
	for _, r := range valids() {
		s := form(r)
		if len(s) > 300 {
			continue
		}
		for at := range len(s) {
			agrees(t, s[:at]+s[at+1:])
			for _, sign := range signs {
				agrees(t, s[:at]+string([]byte{sign})+s[at+1:])
				agrees(t, s[:at]+string([]byte{sign})+s[at:])
			}
		}
	}
}

// --- P4.3: Read of encodings

func TestReadOfEncodings(t *testing.T) {
	tails := []string{"", "x", "\r", "\n", "\r\n", "+OK\r\n", "$-1\r\n", "*1\r\n", "\x00\xff", strings.Repeat("a\r\n", 100)}
	for _, r := range valids() {
		s := string(Write(r))
		for _, tail := range append(tails, s, s[:len(s)-1], s[1:]) {
			reads(t, "P4.3", s+tail, r, len(s))
		}
	}
}

func TestReadOfRandomReplies(t *testing.T) {
	random := rand.New(rand.NewSource(11))
	for range 20000 {
		a, b := randomReply(random, 4), randomReply(random, 4)
		s, tail := form(a), form(b)
		if got := string(Write(a, b)); got != s+tail {
			t.Fatalf("P4.1: Write(%s, %s) = %q", brief(a), brief(b), got)
		}
		reads(t, "P4.3", s+tail, a, len(s))
		reads(t, "P4.3", tail, b, len(tail))
		if Same(a, b) != (s == tail) {
			t.Fatalf("P4.3: %s and %s, the encodings %q and %q", brief(a), brief(b), s, tail)
		}
	}
}

// TestReadOfALongStream reads what Write wrote, one reply after the other.
func TestReadOfALongStream(t *testing.T) {
	random := rand.New(rand.NewSource(12))
	var all []api.Reply
	for range 5000 {
		all = append(all, randomReply(random, 4))
	}
	b := Write(all...)
	for i, want := range all {
		r, n, ok := Read(b)
		if !ok || !equal(r, want) {
			t.Fatalf("P4.3: the reply at %d is %s, %v, want %s", i, brief(r), ok, brief(want))
		}
		b = b[n:]
	}
	if len(b) != 0 {
		t.Errorf("P4.3: %d bytes are left", len(b))
	}
}

// fewest are all valid replies with texts and numbers of a few, and arrays of at most two elements.
func fewest(deep int) []api.Reply {
	all := []api.Reply{{Kind: 4}}
	for _, s := range []string{"", "1", "-1", "0", ":1"} {
		all = append(all, api.Reply{Kind: 0, S: s}, api.Reply{Kind: 1, S: s}, api.Reply{Kind: 3, S: s})
	}
	for _, n := range []int{0, 1, -1, 10} {
		all = append(all, api.Reply{Kind: 2, N: n})
	}
	all = append(all, api.Reply{Kind: 3, S: "\r\n"}, api.Reply{Kind: 3, S: "1\r\n+"})
	if deep == 0 {
		return all
	}
	elements := fewest(deep - 1)
	all = append(all, arrayOf())
	for _, a := range elements {
		all = append(all, arrayOf(a))
		for _, b := range elements {
			all = append(all, arrayOf(a, b))
		}
	}
	return all
}

// TestDifferentRepliesHaveDifferentEncodings asks also that none is the beginning of another: else Read could return either.
func TestDifferentRepliesHaveDifferentEncodings(t *testing.T) {
	var all []string
	for _, r := range fewest(2) {
		all = append(all, string(Write(r)))
	}
	slices.Sort(all)
	for i := range all[1:] {
		if strings.HasPrefix(all[i+1], all[i]) {
			t.Fatalf("P4.3: the encoding %.120q begins with the encoding %.120q of another reply", all[i+1], all[i])
		}
	}
}

// --- P4.3: new memory, and arguments

// memories are the lists of r and of its elements.
func memories(rs ...api.Reply) [][]api.Reply {
	var all [][]api.Reply
	for _, r := range rs {
		if cap(r.L) > 0 {
			all = append(all, r.L)
		}
		all = append(all, memories(r.L...)...)
	}
	return all
}

// shared tells whether two slices have memory in common, spare capacity included.
func shared[T any](a, b []T) bool {
	if cap(a) == 0 || cap(b) == 0 {
		return false
	}
	size := unsafe.Sizeof(*unsafe.SliceData(a))
	from := uintptr(unsafe.Pointer(unsafe.SliceData(a)))
	at := uintptr(unsafe.Pointer(unsafe.SliceData(b)))
	return from < at+uintptr(cap(b))*size && at < from+uintptr(cap(a))*size
}

// apart asks that none of the lists shares memory with another one.
func apart(t *testing.T, what string, lists [][]api.Reply) {
	t.Helper()
	for i, a := range lists {
		for _, b := range lists[:i] {
			if shared(a, b) {
				t.Errorf("P4.3: %s: two lists share memory", what)
			}
		}
	}
}

// deepCopy is r in memory of its own.
func deepCopy(r api.Reply) api.Reply {
	list := make([]api.Reply, 0, len(r.L)+1)
	for _, x := range r.L {
		list = append(list, deepCopy(x))
	}
	r.L = list
	return r
}

// spoil overwrites rs and their elements, and what is behind them.
func spoil(rs []api.Reply) {
	for i := range rs {
		spoil(rs[i].L)
		rs[i] = api.Reply{Kind: -7, S: "spoilt", N: -7}
	}
	clear(rs[len(rs):cap(rs)])
}

// shapes are replies with lists, valid and not.
func shapes() []api.Reply {
	all := append(some(), invalids()...)
	all = append(all, arrayOf(some()...), nested(arrayOf(some()...), 3), arrayOf(arrayOf(some()...), arrayOf(arrayOf(Int(1)), Str("a")), nested(Int(1), 20)))
	return append(all, api.Reply{Kind: 3, S: "a", N: 4, L: []api.Reply{arrayOf(some()...), {Kind: 4, L: some()}}})
}

func TestListIsNewMemory(t *testing.T) {
	backing := make([]api.Reply, 0, 2*len(shapes()))
	for _, r := range shapes() {
		backing = append(backing, deepCopy(r))
	}
	args := backing[:len(backing)-1]
	before := deepCopy(arrayOf(backing...))
	got := List(args...)
	want := deepCopy(arrayOf(args...))
	if !equal(got, want) || !equal(arrayOf(backing...), before) {
		t.Fatal("P4.3: List returned other elements, or changed its arguments or what is behind them")
	}
	for _, r := range backing[len(backing):cap(backing)] {
		if !equal(r, api.Reply{}) {
			t.Fatal("P4.3: List changed the spare capacity of its arguments")
		}
	}
	apart(t, "List and its arguments", append(memories(got), memories(arrayOf(args...))...))
	spoil(got.L)
	if !equal(arrayOf(backing...), before) {
		t.Fatal("P4.3: writing to the result of List changed its arguments")
	}
	got = List(args...)
	spoil(args)
	if !equal(got, want) {
		t.Error("P4.3: List kept its arguments")
	}
}

func TestListOfOneListTwice(t *testing.T) {
	list := []api.Reply{Int(1), arrayOf(some()...)}
	got := List(arrayOf(list...), arrayOf(list...), arrayOf(list[1:]...), list[1])
	apart(t, "List of one list four times", memories(got))
	again := List(got.L...)
	apart(t, "List of the elements of a List", append(memories(got), memories(again)...))
	if !equal(got, again) {
		t.Error("P4.1: List of the elements of a List is not the same")
	}
}

func TestStrsIsNewMemory(t *testing.T) {
	all := []string{"a", "b", "", "c"}
	got := Strs(all[:3]...)
	if all[3] != "c" || !slices.Equal(all[:3], []string{"a", "b", ""}) {
		t.Error("P4.3: Strs changed its arguments or what is behind them")
	}
	clear(all)
	want := arrayOf(Str("a"), Str("b"), Str(""))
	if !equal(got, want) {
		t.Error("P4.3: Strs kept its arguments")
	}
	again := Strs("a", "b", "")
	apart(t, "two results of Strs", append(memories(got), memories(again)...))
}

func TestWriteIsNewMemory(t *testing.T) {
	backing := make([]api.Reply, 0, 2*len(shapes()))
	for _, r := range shapes() {
		backing = append(backing, deepCopy(r))
	}
	before := deepCopy(arrayOf(backing...))
	args := backing[:len(backing)-1]
	got := Write(args...)
	if !equal(arrayOf(backing...), before) || !equal(backing[:cap(backing)][len(backing)], api.Reply{}) {
		t.Fatal("P4.3: Write changed its arguments or what is behind them")
	}
	want := slices.Clone(got)
	again := Write(args...)
	if shared(got, again) {
		t.Error("P4.3: two results of Write share memory")
	}
	clear(again[:cap(again)])
	spoil(args)
	if !bytes.Equal(got, want) {
		t.Error("P4.3: what Write returned changed with its arguments or with another result")
	}
}

func TestReadIsNewMemory(t *testing.T) {
	for _, r := range valids() {
		s := form(r)
		all := []byte(s + "+behind\r\nspare capacity")
		part := all[:len(s)+9]
		got, _, ok := Read(part)
		if !ok || string(all) != s+"+behind\r\nspare capacity" {
			t.Fatalf("P4.3: Read(%.120q) = %v, or it changed its argument or what is behind it", s, ok)
		}
		again, _, _ := Read(part)
		clear(all)
		if !equal(got, r) {
			t.Errorf("P4.3: Read kept the argument %.120q", s)
		}
		if len(s) < 1000 {
			apart(t, "two results of Read", append(memories(got), memories(again)...))
		}
		spoil(got.L)
		if !equal(again, r) {
			t.Errorf("P4.3: writing to what Read returned for %.120q changed another result", s)
		}
	}
	for _, s := range []string{"$2\r\na\r\nspare", "*1\r\n*1\r\n+a\nspare", "spare"} {
		all := []byte(s)
		if _, _, ok := Read(all[:len(all)-5]); ok || string(all) != s {
			t.Errorf("P4.3: Read did not refuse, or it changed %q", s)
		}
	}
}

func TestRightAndSameLeaveTheirArguments(t *testing.T) {
	for _, r := range append(valids(), shapes()...) {
		a, b := deepCopy(r), deepCopy(r)
		Right(a)
		Same(a, b)
		Same(a, List(b))
		if !reflect.DeepEqual(a, deepCopy(r)) || !reflect.DeepEqual(b, a) {
			t.Errorf("P4.3: Right or Same changed %s", brief(r))
		}
	}
}

// --- DOC.md's sections: results depend on arguments alone; calls end and do not panic, however great what they are given

func TestResultsDependOnTheArgumentsAlone(t *testing.T) {
	random := rand.New(rand.NewSource(13))
	all := append(valids(), invalids()...)
	var rights []bool
	var forms []string
	for _, r := range all {
		rights, forms = append(rights, Right(r)), append(forms, string(Write(r)))
	}
	for _, i := range random.Perm(len(all)) {
		if Right(all[i]) != rights[i] || string(Write(all[i])) != forms[i] {
			t.Errorf("another result than before for %s", brief(all[i]))
		}
		if r, n, ok := Read([]byte(forms[i])); ok != rights[i] || n != len(forms[i]) || ok && !Same(r, all[i]) {
			t.Errorf("Read(%.120q) = %s, %d, %v", forms[i], brief(r), n, ok)
		}
	}
}

func TestRepliesNestedVeryDeep(t *testing.T) {
	const arrays = 1<<16 - 1
	a, b, other := nested(Int(1), arrays), nested(Int(1), arrays), nested(Int(2), arrays)
	if !Same(a, b) || Same(a, other) || Same(a, nested(Int(1), arrays-1)) {
		t.Error("P4.1: Same of replies that are nested very deep")
	}
	if Right(a) || len(Write(a)) != 0 || string(Write(a, Int(1), a)) != ":1\r\n" {
		t.Error("P4.1: a reply that is nested very deep is valid")
	}
	if got := List(a); len(got.L) != 1 || !Same(got.L[0], b) {
		t.Error("P4.1: List of a reply that is nested very deep")
	}
}

func TestGreatReplies(t *testing.T) {
	list := api.Reply{Kind: 5}
	for i := range 200000 {
		list.L = append(list.L, Int(i), None())
	}
	for _, r := range []api.Reply{list, nested(list, 3), Str(strings.Repeat("\r\n", 1<<21)), Text(strings.Repeat("x", 1<<22)), arrayOf(Str(strings.Repeat("a", 1<<20)), Wrong(strings.Repeat("b", 1<<20)))} {
		b := Write(r)
		if got, n, ok := Read(append(b, "+OK\r\n"...)); !ok || n != len(b) || !Same(got, r) {
			t.Errorf("P4.3: Read of an encoding of %d bytes: %d, %v", len(b), n, ok)
		}
		if _, n, ok := Read(b[:len(b)-1]); n != 0 || ok {
			t.Errorf("P4.2: Read of an encoding of %d bytes without the last: %d, %v", len(b), n, ok)
		}
	}
}

func TestReadOfNoise(t *testing.T) {
	random := rand.New(rand.NewSource(14))
	for range 100000 {
		b := make([]byte, random.Intn(20))
		for i := range b {
			b[i] = "+-:$*012\r\n\r\n\r\na"[random.Intn(15)]
		}
		agrees(t, string(b))
		random.Read(b)
		agrees(t, string(b))
	}
}
