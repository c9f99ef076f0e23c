package glob

import (
	"math/rand"
	"strings"
	"testing"
	"time"
	"unsafe"
)

// --- Match by the chapter's words, as slow as that is

// unit is a byte of a class, and whether a \ stood before it.
type unit struct {
	b      byte
	quoted bool
}

// endOf is the index of the ] that ends the class whose first listed byte is at
// from; -1 if there is none. A ] is escaped if the \ before it are odd in number.
func endOf(pattern string, from int) int {
	for at := from + 1; at < len(pattern); at++ {
		before := pattern[from:at]
		slashes := len(before) - len(strings.TrimRight(before, `\`))
		if pattern[at] == ']' && slashes%2 == 0 {
			return at
		}
	}
	return -1
}

// unitsOf are the bytes of a class.
func unitsOf(body string) (us []unit) {
	quoted := false
	for _, b := range []byte(body) {
		if b == '\\' && !quoted {
			quoted = true
			continue
		}
		us = append(us, unit{b, quoted})
		quoted = false
	}
	return us
}

// lists asks whether a class with these bytes lists b.
func lists(us []unit, b byte) bool {
	if len(us) == 0 {
		return false
	}
	if len(us) >= 3 && us[1] == (unit{'-', false}) {
		low, high := us[0].b, us[2].b
		return low <= b && b <= high || high <= b && b <= low || lists(us[3:], b)
	}
	return us[0].b == b || lists(us[1:], b)
}

// partFits asks whether the first part of a pattern, which is no star, matches
// b, and how long that part is.
func partFits(pattern string, b byte) (bool, int) {
	switch {
	case pattern[0] == '?':
		return true, 1
	case pattern[0] == '\\' && len(pattern) > 1:
		return pattern[1] == b, 2
	case pattern[0] == '[':
		from := 1
		if strings.HasPrefix(pattern, "[^") {
			from = 2
		}
		if end := endOf(pattern, from); end >= 0 {
			return lists(unitsOf(pattern[from:end]), b) != (from == 2), end + 1
		}
	}
	return pattern[0] == b, 1
}

// slowMatch is Match: it tries all ways to divide s.
func slowMatch(pattern, s string) bool {
	switch {
	case pattern == "":
		return s == ""
	case pattern[0] == '*':
		return slowMatch(pattern[1:], s) || s != "" && slowMatch(pattern, s[1:])
	case s == "":
		return false
	}
	fits, size := partFits(pattern, s[0])
	return fits && slowMatch(pattern[size:], s[1:])
}

// texts are all strings of at most n of these bytes.
func texts(alphabet string, n int) []string {
	all := []string{""}
	longest := all
	for range n {
		var longer []string
		for _, s := range longest {
			for _, b := range []byte(alphabet) {
				longer = append(longer, s+string([]byte{b}))
			}
		}
		all = append(all, longer...)
		longest = longer
	}
	return all
}

// check holds Match against want.
func check(t *testing.T, pattern, s string, want bool) {
	t.Helper()
	if got := Match(pattern, s); got != want {
		t.Errorf("P2.1: Match(%.60q, %.60q) = %v, want %v", pattern, s, got, want)
	}
}

// checkBytes asks that pattern matches, of all strings of one byte, those in want.
func checkBytes(t *testing.T, pattern, want string) {
	t.Helper()
	for b := range 256 {
		check(t, pattern, string([]byte{byte(b)}), strings.IndexByte(want, byte(b)) >= 0)
	}
}

// span are the bytes from low to high.
func span(low, high int) string {
	var all []byte
	for b := low; b <= high; b++ {
		all = append(all, byte(b))
	}
	return string(all)
}

// --- P2.1: Match

func TestMatchOfLiterals(t *testing.T) {
	for _, c := range []struct {
		pattern, s string
		want       bool
	}{
		{"", "", true},
		{"", "a", false},
		{"a", "", false},
		{"a", "a", true},
		{"a", "b", false},
		{"a", "A", false},
		{"abc", "abc", true},
		{"abc", "ab", false},
		{"abc", "abcd", false},
		{"abc", "xabc", false},
		{"]", "]", true},
		{"-^]", "-^]", true},
		{"/.", "/.", true},
		{"\x00", "\x00", true},
		{"\x00", "", false},
		{"\xff\xfe", "\xff\xfe", true},
		{"\xff", "\xfe", false},
		{"\u00e9", "\u00e9", true},
		{"\u00e9", "\u00e8", false},
	} {
		check(t, c.pattern, c.s, c.want)
	}
}

func TestMatchOfQuestionMarks(t *testing.T) {
	checkBytes(t, "?", span(0, 255))
	for _, c := range []struct {
		pattern, s string
		want       bool
	}{
		{"?", "", false},
		{"?", "ab", false},
		{"a?c", "abc", true},
		{"a?c", "a?c", true},
		{"a?c", "ac", false},
		{"a?c", "abbc", false},
		{"???", "abc", true},
		{"???", "ab", false},
		// A byte, and not a letter.
		{"?", "\u00e9", false},
		{"??", "\u00e9", true},
	} {
		check(t, c.pattern, c.s, c.want)
	}
}

func TestMatchOfStars(t *testing.T) {
	for _, c := range []struct {
		pattern, s string
		want       bool
	}{
		{"*", "", true},
		{"*", "abc", true},
		{"*", "*", true},
		{"*", "\x00\xff\n/.", true},
		{"**", "", true},
		{"***", "abc", true},
		{"a*", "a", true},
		{"a*", "abc", true},
		{"a*", "", false},
		{"a*", "ba", false},
		{"*a", "a", true},
		{"*a", "bca", true},
		{"*a", "ab", false},
		{"**a", "xa", true},
		{"a**", "a", true},
		{"a*c", "ac", true},
		{"a*c", "abbc", true},
		{"a*c", "acbc", true},
		{"a*c", "ab", false},
		{"a*c", "acb", false},
		{"a**c", "ac", true},
		{"a*c*e", "abcde", true},
		{"a*c*e", "ace", true},
		{"a*c*e", "aeecee", true},
		{"a*c*e", "aec", false},
		{"a*c*e", "abde", false},
		// What stands before and behind a star may not share a byte.
		{"a*a", "a", false},
		{"a*a", "aa", true},
		{"ab*bc", "abc", false},
		{"ab*bc", "abbc", true},
		{"*ab*ab*", "ab", false},
		{"*ab*ab*", "xabab", true},
		{"*aba*aba*", "ababa", false},
		{"*aba*aba*", "abaaba", true},
		{"*a*", "a", true},
		{"*a*", "bab", true},
		{"*a*", "bb", false},
		// The first place that a run fits is the wrong one for what ends the pattern.
		{"*ab", "abab", true},
		{"*ab?", "ababc", true},
		{"*a?b", "abaab", true},
		{"*?*", "", false},
		{"*?*", "a", true},
		{"?*?", "a", false},
		{"?*?", "ab", true},
		{"*[ab]*\\**", "xb*", true},
		{"*[ab]*\\**", "*b", false},
		{"*[ab]*\\**", "**b*", true},
	} {
		check(t, c.pattern, c.s, c.want)
	}
}

func TestMatchOfClasses(t *testing.T) {
	for pattern, want := range map[string]string{
		"[a]":     "a",
		"[abc]":   "abc",
		"[cabac]": "abc",
		"[*]":     "*",
		"[?*[]":   "?*[",
		"[[]":     "[",
		"[[a]":    "[a",
		"[^a]":    span(0, 'a'-1) + span('b', 255),
		"[^ab]":   span(0, 'a'-1) + span('c', 255),
		"[a^]":    "a^",
		"[^^]":    span(0, '^'-1) + span('^'+1, 255),
		"[\\^]":   "^",
		"[\\^a]":  "^a",
		// A ] in the first place.
		"[]]":       "]",
		"[]a]":      "]a",
		"[^]]":      span(0, ']'-1) + span('^', 255),
		"[^]a]":     span(0, ']'-1) + span('^', 'a'-1) + span('b', 255),
		"[]-a]":     "]^_`a",
		"[]-]":      "]-",
		"[^]-a]":    span(0, ']'-1) + span('b', 255),
		"[\\]]":     "]",
		"[^\\]]":    span(0, ']'-1) + span('^', 255),
		"[a\\]b]":   "a]b",
		"[\\]-\\_]": "]^_",
		// Ranges.
		"[a-c]":         "abc",
		"[c-a]":         "abc",
		"[a-a]":         "a",
		"[xa-cz]":       "xabcz",
		"[a-cx-z]":      "abcxyz",
		"[c-az-x]":      "abcxyz",
		"[a-c-e]":       "abc-e",
		"[a-ce-]":       "abce-",
		"[^a-c]":        span(0, 'a'-1) + span('d', 255),
		"[^c-a]":        span(0, 'a'-1) + span('d', 255),
		"[\x00-\xff]":   span(0, 255),
		"[\xff-\x00]":   span(0, 255),
		"[^\x00-\xff]":  "",
		"[\x00-\x02]":   "\x00\x01\x02",
		"[\xfd-\xff]":   "\xfd\xfe\xff",
		"[\x7f-\x81]":   "\x7f\x80\x81",
		"[?-A]":         "?@A",
		"[[-^]":         "[\\]^",
		"[a-^]":         "a`_^",
		"[*-,]":         "*+,",
		"[\u00e9]":      "\xc3\xa9",
		"[\u00e9-\xab]": "\xc3\xa9\xaa\xab",
		// A - that stands for itself.
		"[-]":     "-",
		"[a-]":    "a-",
		"[-a]":    "-a",
		"[^-a]":   span(0, '-'-1) + span('.', 'a'-1) + span('b', 255),
		"[^a-]":   span(0, '-'-1) + span('.', 'a'-1) + span('b', 255),
		"[a\\-c]": "a-c",
		"[--]":    "-",
		// A - that begins or ends a range.
		"[--0]":     "-./0",
		"[+--]":     "+,-",
		"[---]":     "-",
		"[----]":    "-",
		"[\\--0]":   "-./0",
		"[+-\\-]":   "+,-",
		"[\\-0]":    "-0",
		"[\\--\\-]": "-",
		// A \ within a class, and at the ends of a range.
		"[\\a]":           "a",
		"[\\\\]":          "\\",
		"[\\\\a]":         "\\a",
		"[\\*\\?]":        "*?",
		"[\\a-\\c]":       "abc",
		"[a-\\c]":         "abc",
		"[\\a-c]":         "abc",
		"[\\c-\\a]":       "abc",
		"[Z-\\\\]":        "Z[\\",
		"[\\\\-Z]":        "Z[\\",
		"[Z-\\]]":         "Z[\\]",
		"[\\]-Z]":         "Z[\\]",
		"[a-c\\-e]":       "abc-e",
		"[\\\\-\\\\]":     "\\",
		"[^\\\\-\\]]":     span(0, '\\'-1) + span('^', 255),
		"[\\\x00-\\\xff]": span(0, 255),
		// Other parts that match one byte.
		"\\*":    "*",
		"\\?":    "?",
		"\\[":    "[",
		"\\]":    "]",
		"\\a":    "a",
		"\\\\":   "\\",
		"\\\x00": "\x00",
		"\\\xff": "\xff",
		"\\":     "\\",
		"[":      "[",
		"]":      "]",
		"^":      "^",
		"-":      "-",
	} {
		checkBytes(t, pattern, want)
		check(t, pattern, "", false)
	}
}

func TestMatchOfClassesAmongOtherParts(t *testing.T) {
	for _, c := range []struct {
		pattern, s string
		want       bool
	}{
		{"h[a-c]*o", "hbello", true},
		{"h[a-c]*o", "ho", false},
		{"h[a-c]*o", "hdello", false},
		{"h[^a]o", "hao", false},
		{"h[^a]o", "hbo", true},
		{"h[^a]o", "ho", false},
		{"[ab][cd]", "bc", true},
		{"[ab][cd]", "cb", false},
		{"[a]b]", "ab]", true},
		{"[a]b]", "b", false},
		{"[a-]]", "a]", true},
		{"[a-]]", "-]", true},
		{"[a-]]", "]", false},
		{"[]]]", "]]", true},
		{"[[]]", "[]", true},
		{"[\\\\]]", "\\]", true},
		{"[\\\\]]", "]", false},
		{"*[0-9]", "ab7", true},
		{"*[0-9]", "7ab", false},
		{"[ab]*[ab]", "a", false},
		{"[ab]*[ab]", "acb", true},
		{"[\u00e9]", "\u00e9", false},
	} {
		check(t, c.pattern, c.s, c.want)
	}
}

// TestMatchOfBracketsWithoutEnd: a [ that no ] ends stands for itself, and what
// follows it is what it would be elsewhere.
func TestMatchOfBracketsWithoutEnd(t *testing.T) {
	for _, c := range []struct {
		pattern, s string
		want       bool
	}{
		{"[", "[", true},
		{"[", "", false},
		{"[", "a", false},
		{"[ab", "[ab", true},
		{"[ab", "a", false},
		{"a[", "a[", true},
		{"[[", "[[", true},
		{"[]", "[]", true},
		{"[]", "]", false},
		{"[]", "", false},
		{"[^]", "[^]", true},
		{"[^]", "a", false},
		{"[^", "[^", true},
		{"[^", "a", false},
		{"[a-", "[a-", true},
		{"[]a*", "[]abc", true},
		{"[?", "[x", true},
		{"[?", "?", false},
		{"[*", "[", true},
		{"[*", "[xyz", true},
		{"[*", "*", false},
		{"*[*", "ab[cd", true},
		{"*[*", "abcd", false},
		{"[\\]", "[]", true},
		{"[\\]", "]", false},
		{"[\\]", "[\\]", false},
		{"[a\\]", "[a]", true},
		{"[a\\]", "a", false},
		{"[\\a", "[a", true},
		{"[\\a", "[\\a", false},
		{"[\\", "[\\", true},
		{"[\\\\", "[\\", true},
		{"[]\\]", "[]]", true},
		{"[a][", "a[", true},
		{"[a][b", "a[b", true},
		{"[a][b", "[a][b", false},
		{"[][", "[][", true},
		{"[^][", "[^][", true},
		// A ] farther on does end it.
		{"[[]", "[", true},
		{"[[a]", "a", true},
		{"[][a]", "]", true},
		{"[][a]", "[]a", false},
		{"[*]", "*", true},
		{"[*]", "[x]", false},
		{"[\\]a]", "a", true},
		{"[[\\]]", "]", true},
	} {
		check(t, c.pattern, c.s, c.want)
	}
}

func TestMatchOfBackslashes(t *testing.T) {
	for _, c := range []struct {
		pattern, s string
		want       bool
	}{
		{"\\*", "*", true},
		{"\\*", "a", false},
		{"\\*", "", false},
		{"\\*", "\\*", false},
		{"\\?", "a", false},
		{"\\[a]", "[a]", true},
		{"\\[a]", "a", false},
		{"\\[a\\]", "[a]", true},
		{"\\a\\b", "ab", true},
		{"\\a\\b", "\\a\\b", false},
		{"\\\\*", "\\", true},
		{"\\\\*", "\\abc", true},
		{"\\\\*", "*", false},
		{"\\\\\\*", "\\*", true},
		{"\\\\\\*", "\\a", false},
		// A \ at the end.
		{"\\", "\\", true},
		{"\\", "", false},
		{"\\", "a", false},
		{"a\\", "a\\", true},
		{"a\\", "a", false},
		{"*\\", "ab\\", true},
		{"*\\", "ab", false},
		{"[a]\\", "a\\", true},
		{"\\\\\\", "\\\\", true},
		{"\\\\\\", "\\", false},
	} {
		check(t, c.pattern, c.s, c.want)
	}
}

// checkAll holds Match of all these patterns and strings against slowMatch.
func checkAll(t *testing.T, patterns, strs []string) {
	t.Helper()
	for _, p := range patterns {
		for _, s := range strs {
			check(t, p, s, slowMatch(p, s))
		}
	}
}

func TestMatchOfAllShortPatterns(t *testing.T) {
	const signs = "*?[]^-\\ac"
	checkAll(t, texts(signs, 4), texts(signs+"b", 2))
	var classes []string
	for _, body := range texts("]^-\\ac", 5) {
		classes = append(classes, "["+body+"]")
	}
	checkAll(t, classes, append(texts("*[]^_-\\abc", 1), "a]", "c]", "-]", "]]", "[]", "[^]", "[a]"))
	checkAll(t, texts("*?ab", 6), texts("abc", 4))
	checkAll(t, texts("*ab", 6), texts("ab", 7))
}

// randomText is a string of at most n bytes of the alphabet.
func randomText(r *rand.Rand, alphabet string, n int) string {
	b := make([]byte, r.Intn(n+1))
	for i := range b {
		b[i] = alphabet[r.Intn(len(alphabet))]
	}
	return string(b)
}

func TestMatchOfRandomPatterns(t *testing.T) {
	r := rand.New(rand.NewSource(2))
	all := span(0, 255)
	for range 200000 {
		for _, alphabet := range []string{"*?[]^-\\ab", all, all[:128] + strings.Repeat("*?[]^-\\", 20)} {
			p, s := randomText(r, alphabet, 12), randomText(r, alphabet, 6)
			check(t, p, s, slowMatch(p, s))
		}
	}
}

// TestMatchOfWhatAPatternMatches replaces parts of a string by parts that match
// them, so that long strings are matched too.
func TestMatchOfWhatAPatternMatches(t *testing.T) {
	r := rand.New(rand.NewSource(3))
	for range 20000 {
		s := randomText(r, span(0, 255), 40)
		var p strings.Builder
		for i := 0; i < len(s); i++ {
			switch r.Intn(5) {
			case 0:
				p.WriteString("?")
			case 1:
				p.WriteString("\\" + s[i:i+1])
			case 2:
				p.WriteString("[x\\" + s[i:i+1] + "]")
			case 3:
				p.WriteString("[\\" + s[i:i+1] + "-\x80]")
			case 4:
				p.WriteString("*")
				i += r.Intn(3) - 1
			}
		}
		check(t, p.String(), s, true)
		check(t, p.String()+"\\!", s+"?", false)
	}
}

// --- P2.1: the bound on the number of steps

// within runs do, and fails if that takes far longer than what is in bounds. A
// number of steps that grows faster than the product of the lengths takes
// minutes at least for the inputs of these tests.
func within(t *testing.T, what string, do func()) {
	t.Helper()
	done := make(chan bool)
	go func() {
		do()
		close(done)
	}()
	select {
	case <-done:
	case <-time.After(30 * time.Second):
		t.Fatalf("P2.1: %s: too many steps", what)
	}
}

func TestStepsAreBoundedByTheProductOfTheLengths(t *testing.T) {
	many := strings.Repeat
	for _, c := range []struct {
		what, pattern, s string
		want             bool
	}{
		{"stars and letters", many("*a", 1000) + "b", many("a", 20000), false},
		{"stars and letters before a star", many("*a", 1000) + "*b*", many("a", 20000), false},
		{"stars and runs", many("*"+many("a", 30)+"b", 50) + "c", many(many("a", 29)+"b", 700), false},
		{"stars and ?", many("*?", 3000) + "b", many("a", 10000), false},
		{"stars and classes", many("*[a-c]", 1000) + "d", many("abc", 5000), false},
		{"stars alone", many("*", 10000) + "b", many("a", 10000), false},
		{"stars that match", many("*", 100000), many("a", 1000), true},
		{"a run that begins everywhere", "*" + many("a", 5000) + "b*", many("a", 10000), false},
		{"[ without end", many("[", 400000), "[", false},
		{"[^ without end", many("[^", 200000), "[", false},
		{"[ without end behind a star", "*" + many("[", 5000) + "x*", many("[", 10000), false},
		{"[ without end, all matched", many("[", 400000), many("[", 400000), true},
		{"[ without end, \\] behind them", many("[", 300000) + many("\\]", 50000), many("[", 300000) + many("]", 50000), true},
		{"[] without end", many("[", 400000) + "]", "[", true},
		{"a class of many bytes", "*[" + many("ab", 100000) + "]c*", many("a", 1000), false},
		{"a class of many ranges", "*[" + many("b-d", 50000) + "]c*", many("b", 1000), false},
		{"classes of all bytes", "*" + many("[\x01-\xff]", 2000) + "\x00*", many("a", 10000), false},
		{"many \\", many("\\", 400000), many("\\", 200000), true},
		{"a literal", many("a", 400000), many("a", 400000), true},
	} {
		within(t, c.what, func() { check(t, c.pattern, c.s, c.want) })
	}
}

// --- P2.2: Plain and Quote

func TestPlain(t *testing.T) {
	for b := range 256 {
		s := string([]byte{byte(b)})
		want := !strings.Contains("*?[\\", s)
		for _, c := range []string{s, "ab" + s, s + "ab", "a" + s + "b", strings.Repeat("a", 1000) + s, s + s} {
			if got := Plain(c); got != want {
				t.Errorf("P2.2: Plain(%.20q) = %v", c, got)
			}
		}
	}
	for s, want := range map[string]bool{
		"":             true,
		"abc]^-":       true,
		"a b\r\n\x00/": true,
		"\u00e9\xff":   true,
		"\uff0a\uff1f": true, // a star and a question mark of another script
		"a?":           false,
		"*a":           false,
		"[a]":          false,
		"a]b[":         false,
		"\\":           false,
		"\\a":          false,
		"\xff*":        false,
		"\u00e9?":      false,
	} {
		if got := Plain(s); got != want {
			t.Errorf("P2.2: Plain(%q) = %v", s, got)
		}
	}
}

func TestQuote(t *testing.T) {
	for s, want := range map[string]string{
		"":               "",
		"abc":            "abc",
		"abc]^-":         "abc]^-",
		"*":              "\\*",
		"?":              "\\?",
		"[":              "\\[",
		"\\":             "\\\\",
		"a*[b\\?":        "a\\*\\[b\\\\\\?",
		"[^a-c]*":        "\\[^a-c]\\*",
		"\\*":            "\\\\\\*",
		"**":             "\\*\\*",
		"\x00\xff*\xff":  "\x00\xff\\*\xff",
		"\u00e9?\uff0a!": "\u00e9\\?\uff0a!",
	} {
		if got := Quote(s); got != want {
			t.Errorf("P2.2: Quote(%q) = %q, want %q", s, got, want)
		}
	}
	for _, s := range append(texts("*?[]\\a\xff", 4), span(0, 255)) {
		want := s
		for _, sign := range []string{"\\", "*", "?", "["} {
			want = strings.ReplaceAll(want, sign, "\\"+sign)
		}
		if got := Quote(s); got != want {
			t.Errorf("P2.2: Quote(%q) = %q, want %q", s, got, want)
		}
	}
}

// --- P2.3: what matches only one string

// neighbours are strings that are nearly s, but not s.
func neighbours(s string) []string {
	all := []string{s + "a", s + "\\", "a" + s, "\\" + s, s + s + "b", s + "\x00"}
	if s != "" {
		all = append(all, s[1:], s[:len(s)-1], "")
	}
	for i := range len(s) {
		b := []byte(s)
		b[i] ^= 1
		all = append(all, string(b))
		b[i] ^= 1 ^ 0x20
		all = append(all, string(b))
	}
	return all
}

// checkOnly asks that pattern matches s, and none of the others beside it.
func checkOnly(t *testing.T, pattern, s string, others []string) {
	t.Helper()
	if !Match(pattern, s) {
		t.Errorf("P2.3: Match(%q, %q) = false", pattern, s)
	}
	for _, other := range others {
		if other != s && Match(pattern, other) {
			t.Errorf("P2.3: Match(%q, %q) = true, beside %q", pattern, other, s)
		}
	}
}

func TestPlainPatternsMatchOnlyThemselves(t *testing.T) {
	all := texts("ab]^-", 3)
	for _, s := range append(all, "key:1", "\x00\xff", "\u00e9", "a]b", "a-c", "]", "^a]", strings.Repeat("ab", 300)) {
		if !Plain(s) {
			t.Fatalf("P2.2: Plain(%q) = false", s)
		}
		checkOnly(t, s, s, append(neighbours(s), all...))
	}
}

func TestQuotedStringsMatchOnlyThemselves(t *testing.T) {
	all := texts("*?[]\\a^-", 3)
	for _, s := range all {
		checkOnly(t, Quote(s), s, all)
		checkOnly(t, Quote(s), s, neighbours(s))
	}
	r := rand.New(rand.NewSource(4))
	for range 2000 {
		for _, alphabet := range []string{"*?[]\\a-^", span(0, 255)} {
			s := randomText(r, alphabet, 30)
			checkOnly(t, Quote(s), s, neighbours(s))
		}
	}
	whole := span(0, 255)
	checkOnly(t, Quote(whole), whole, neighbours(whole))
}

func TestQuoteReturnsNewMemory(t *testing.T) {
	const back = "abc*[?\\abc]"
	for _, s := range []string{back, back[:3], back[:1], back[3:4], back[2:8]} {
		got := Quote(s)
		for i := range len(got) {
			for j := range len(s) {
				if unsafe.StringData(got[i:]) == unsafe.StringData(s[j:]) {
					t.Fatalf("P2.3: Quote(%q) shares memory with its argument", s)
				}
			}
		}
		if again := Quote(s); unsafe.StringData(got) == unsafe.StringData(again) {
			t.Errorf("P2.3: two results of Quote(%q) share memory", s)
		}
	}
}

// --- The sections of DOC.md: results depend on arguments only, and no call panics

func TestResultsDependOnArgumentsOnly(t *testing.T) {
	r := rand.New(rand.NewSource(5))
	type call struct {
		pattern, s, quoted string
		match, plain       bool
	}
	var calls []call
	for range 20000 {
		c := call{pattern: randomText(r, "*?[]^-\\ab\x00\xff", 20), s: randomText(r, "ab]-^[", 10)}
		c.match, c.plain, c.quoted = Match(c.pattern, c.s), Plain(c.pattern), Quote(c.pattern)
		calls = append(calls, c)
	}
	r.Shuffle(len(calls), func(i, j int) { calls[i], calls[j] = calls[j], calls[i] })
	for _, c := range calls {
		if Match(c.pattern, c.s) != c.match || Plain(c.pattern) != c.plain || Quote(c.pattern) != c.quoted {
			t.Fatalf("another result than before for %q, %q", c.pattern, c.s)
		}
	}
}
