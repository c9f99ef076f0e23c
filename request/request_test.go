package request

import (
	"fmt"
	"math/rand"
	"regexp"
	"slices"
	"strconv"
	"strings"
	"testing"
	"unsafe"

	"pentimento/api"
)

// --- commands, and their encodings by the chapter's words

// encoding is the array encoding of a command, whatever its size.
func encoding(words ...string) string {
	var s strings.Builder
	fmt.Fprintf(&s, "*%d\r\n", len(words))
	for _, w := range words {
		fmt.Fprintf(&s, "$%d\r\n%s\r\n", len(w), w)
	}
	return s.String()
}

// times are n words w.
func times(n int, w string) []string { return slices.Repeat([]string{w}, n) }

// texts are words that an array may have.
func texts() []string {
	all := []string{
		"", "a", "PING", "get", " ", "  ", " a", "a ", "a b", "\r", "\n", "\r\n", "\n\r", "\r\n\r\n", "a\r\nb", "\ra\n", "a\r", "\n\n",
		"\x00", "\t\v\f", "\xff\xfe", "\u00e9\u2028\u0085\u00a0", "*", "$", "*1", "$1", "*1\r\n$1\r\na\r\n", "$1\r\na\r\n", "*0\r\n", "*x\r\n",
		"PING\r\n", "-1", "$-1\r\n", "+OK\r\n", ":1\r\n", strings.Repeat("\r\n", 600), strings.Repeat("x", 1025), strings.Repeat(" ", 1027),
	}
	for _, n := range []int{9, 10, 11, 99, 100, 999, 1000, 4095, 4096} {
		all = append(all, strings.Repeat("\r\n*$", n)[:n])
	}
	whole := make([]byte, 256)
	for b := range whole {
		whole[b] = byte(b)
	}
	return append(all, string(whole))
}

// plains are words that an inline command may have in any place.
func plains() []string {
	return []string{
		"a", "PING", "$1", "$", "-1", "+OK", ":1", "a*1", "\t", "\x00", "\v\f", "\xff", "\xc0\xa0", "\u00a0", "\u2003x",
		"a\rb", "\r", "\ra", "a\r", "'", "\"a", "\\", strings.Repeat("x", 500),
	}
}

// ahead is an input that ends where a command may begin, and the commands in it.
type ahead struct {
	s        string
	commands [][]string
}

func aheads() []ahead {
	return []ahead{
		{"", nil},
		{"\r\n  \r\n", nil},
		{"PING\r\n", [][]string{{"PING"}}},
		{" a  b \r\n \r\n", [][]string{{"a", "b"}}},
		{encoding(""), [][]string{{""}}},
		{encoding("\r\n", "*0\r\n") + "\r\nGET a\r\n", [][]string{{"\r\n", "*0\r\n"}, {"GET", "a"}}},
	}
}

// --- a slow reader by the chapter's words

// story is what a reader has told of an input, all in all.
type story struct {
	commands [][]string
	err      api.Errno
	waiting  int
}

func (a story) equal(b story) bool {
	return a.err == b.err && a.waiting == b.waiting && slices.EqualFunc(a.commands, b.commands, slices.Equal)
}

func (a story) String() string {
	return fmt.Sprintf("%d commands %.200q, error %d, %d waiting", len(a.commands), fmt.Sprint(a.commands), a.err, a.waiting)
}

// slow is the story of s.
func slow(s string) story {
	var all story
	for {
		words, n, e := slowCommand(s)
		switch {
		case e == api.ErrMore:
			all.waiting = len(s)
			return all
		case e != api.OK:
			all.err = e
			return all
		case len(words) > 0:
			all.commands = append(all.commands, words)
		}
		s = s[n:]
	}
}

// slowCommand is the command at the beginning of s, without words where there is an empty line, and its length.
func slowCommand(s string) ([]string, int, api.Errno) {
	line, at, e := slowLine(s)
	if e != api.OK {
		return nil, 0, e
	}
	if !strings.HasPrefix(line, "*") {
		words := slices.DeleteFunc(strings.Split(line, " "), func(w string) bool { return w == "" })
		if len(words) > 128 {
			return nil, 0, api.ErrLong
		}
		return words, at, api.OK
	}
	count, e := slowNumber(line[1:], 1, 128)
	if e != api.OK {
		return nil, 0, e
	}
	var words []string
	for len(words) < count {
		w, n, e := slowWord(s[at:])
		if e != api.OK {
			return nil, 0, e
		}
		words, at = append(words, w), at+n
	}
	return words, at, api.OK
}

// slowWord is the word of an array at the beginning of s, and its length with the line before it.
func slowWord(s string) (string, int, api.Errno) {
	line, at, e := slowLine(s)
	if e != api.OK {
		return "", 0, e
	}
	if line == "" || line[0] != '$' {
		return "", 0, api.ErrForm
	}
	n, e := slowNumber(line[1:], 0, 4096)
	if e != api.OK {
		return "", 0, e
	}
	if len(s)-at-n < 2 {
		return "", 0, api.ErrMore
	}
	if s[at+n] != '\r' || s[at+n+1] != '\n' {
		return "", 0, api.ErrForm
	}
	return s[at : at+n], at + n + 2, api.OK
}

// slowLine is the line at the beginning of s, and its length with its end.
func slowLine(s string) (string, int, api.Errno) {
	for i := range 1026 {
		if i == len(s) {
			return "", 0, api.ErrMore
		}
		if s[i] == '\n' && i > 0 && s[i-1] == '\r' {
			return s[:i-1], i + 1, api.OK
		}
		if s[i] == '\n' {
			return "", 0, api.ErrForm
		}
	}
	return "", 0, api.ErrLong
}

var decimal = regexp.MustCompile("^(0|-?[1-9][0-9]*)$")

// slowNumber is the number whose decimal form is s.
func slowNumber(s string, least, most int) (int, api.Errno) {
	n, err := strconv.Atoi(s)
	if !decimal.MatchString(s) || err != nil || n < least {
		return 0, api.ErrForm
	}
	if n > most {
		return 0, api.ErrLong
	}
	return n, api.OK
}

// --- feeding readers

// feed hands s to r and adds what that tells to a.
func feed(t *testing.T, r *Reader, a *story, s string) {
	t.Helper()
	commands, e := r.Feed([]byte(s))
	if a.err != api.OK && (len(commands) != 0 || e != a.err) {
		t.Errorf("P5.1: after the error %d Feed(%.80q) = %.80q, %d", a.err, s, commands, e)
	}
	a.commands, a.err, a.waiting = append(a.commands, commands...), e, r.Waiting()
}

// fed is what a new reader tells of parts, with a Feed for each.
func fed(t *testing.T, parts ...string) story {
	t.Helper()
	var a story
	r := New()
	for _, part := range parts {
		feed(t, r, &a, part)
	}
	return a
}

// singles are the bytes of s, each by itself.
func singles(s string) []string {
	var all []string
	for i := range len(s) {
		all = append(all, s[i:i+1])
	}
	return all
}

// tells asks for the story of s, whether it comes at once or in single bytes.
func tells(t *testing.T, s string, want story) {
	t.Helper()
	if got := fed(t, s); !got.equal(want) {
		t.Errorf("P5.1: of %.120q: %v, want %v", s, got, want)
	}
	if got := fed(t, singles(s)...); !got.equal(want) {
		t.Errorf("P5.3: of %.120q in single bytes: %v, want %v", s, got, want)
	}
}

// returns asks that s has these commands, and that no others, no error and no bytes are behind them.
func returns(t *testing.T, s string, commands ...[]string) {
	t.Helper()
	tells(t, s, story{commands: commands})
}

// fails asks that s, which has no command, has this error at its last byte and not before, whatever is ahead of it and behind it.
func fails(t *testing.T, s string, want api.Errno) {
	t.Helper()
	for _, first := range aheads() {
		all := first.s + s
		tells(t, all, story{first.commands, want, 0})
		for _, more := range []string{"\n", "\r\n", "PING\r\n", "*0\r\n", "*129\r\n", encoding("PING")} {
			if got := fed(t, all+more, more, more); !got.equal(story{first.commands, want, 0}) {
				t.Errorf("P5.1: of %.80q with %q behind it: %v, want the error %d", all, more, got, want)
			}
		}
		early := fed(t, all[:len(all)-1])
		if !early.equal(story{first.commands, api.OK, len(s) - 1}) {
			t.Errorf("P5.1: of %.80q without its last byte: %v, want no error, %d waiting", all, early, len(s)-1)
		}
	}
}

// follows asks that each beginning of s is told as the slow reader tells it.
func follows(t *testing.T, s string) {
	t.Helper()
	var a story
	r := New()
	for i := range len(s) {
		feed(t, r, &a, s[i:i+1])
		if want := slow(s[:i+1]); !a.equal(want) {
			t.Fatalf("P5.1: of the first %d bytes of %.120q: %v, want %v", i+1, s, a, want)
		}
	}
}

// --- P5.1: commands

func TestExample(t *testing.T) {
	r := New()
	commands, e := r.Feed([]byte("*1\r\n$4\r\nPING\r\n SET a  b \r\n*"))
	if !slices.EqualFunc(commands, [][]string{{"PING"}, {"SET", "a", "b"}}, slices.Equal) || e != api.OK {
		t.Errorf("P5.1: Feed = %q, %d, want PING and SET, a, b, and no error", commands, e)
	}
	if n := r.Waiting(); n != 1 {
		t.Errorf("P5.1: %d bytes are waiting, want 1", n)
	}
}

func TestArraysAndInlineCommandsInTurn(t *testing.T) {
	returns(t, "*1\r\n$4\r\nPING\r\nPING\r\n*2\r\n$3\r\nGET\r\n$1\r\na\r\nGET a\r\n*1\r\n$0\r\n\r\n",
		[]string{"PING"}, []string{"PING"}, []string{"GET", "a"}, []string{"GET", "a"}, []string{""})
	returns(t, "GET a\r\nGET b\r\n", []string{"GET", "a"}, []string{"GET", "b"})
	returns(t, "*1\r\n$1\r\na\r\n*1\r\n$1\r\nb\r\n", []string{"a"}, []string{"b"})
	var s string
	var commands [][]string
	for i, w := range plains() {
		s += encoding(w, "x") + w + " x\r\n" + encoding(times(i+1, w)...)
		commands = append(commands, []string{w, "x"}, []string{w, "x"}, times(i+1, w))
	}
	returns(t, s, commands...)
}

func TestWordsOfArbitraryBytes(t *testing.T) {
	for _, w := range texts() {
		returns(t, encoding(w), []string{w})
		returns(t, encoding("SET", w, "", w), []string{"SET", w, "", w})
	}
	for b := range 256 {
		w := string([]byte{byte(b)})
		returns(t, encoding(w, w+w), []string{w, w + w})
		returns(t, encoding(w)+encoding("a"+w+"b"), []string{w}, []string{"a" + w + "b"})
	}
	returns(t, encoding(texts()...)+"PING\r\n", texts(), []string{"PING"})
}

func TestInlineWords(t *testing.T) {
	for _, w := range plains() {
		returns(t, w+"\r\n", []string{w})
		returns(t, "a "+w+"\r\n"+w+" "+w+"\r\n", []string{"a", w}, []string{w, w})
	}
	for b := range 256 {
		if w := string([]byte{byte(b)}); !strings.Contains(" *\n", w) {
			returns(t, w+"\r\n", []string{w})
			returns(t, "a"+w+"b  "+w+"\r\n", []string{"a" + w + "b", w})
		}
	}
	// Only at the beginning of a line does a * announce an array, and there a $ announces nothing.
	returns(t, " *1\r\na *0\r\na*x\r\n$1\r\n$-1\r\n $x\r\n", []string{"*1"}, []string{"a", "*0"}, []string{"a*x"}, []string{"$1"}, []string{"$-1"}, []string{"$x"})
}

func TestSpaces(t *testing.T) {
	for _, before := range []string{"", " ", "   ", strings.Repeat(" ", 800)} {
		for _, between := range []string{" ", "  ", strings.Repeat(" ", 50)} {
			for _, after := range []string{"", " ", "  ", strings.Repeat(" ", 60)} {
				returns(t, before+"SET"+between+"a"+between+"b"+after+"\r\n", []string{"SET", "a", "b"})
				returns(t, before+"a"+after+"\r\n", []string{"a"})
			}
		}
	}
	// No other byte separates words, nor does a character of several bytes.
	w := "a\tb\vc\fd\x00e\u00a0f\u2003g\u3000h\x85i\x1fj\rk,l"
	returns(t, w+"\r\n", []string{w})
}

func TestEmptyLines(t *testing.T) {
	for _, n := range []int{0, 1, 2, 100, 1023, 1024} {
		line := strings.Repeat(" ", n) + "\r\n"
		returns(t, line)
		returns(t, line+line+line)
		returns(t, line+"a\r\n"+line+line+encoding("b")+line+"c\r\n"+line, []string{"a"}, []string{"b"}, []string{"c"})
		returns(t, encoding("", line)+line+encoding(line), []string{"", line}, []string{line})
		fails(t, "*1\r\n"+line, api.ErrForm)
		fails(t, "*2\r\n$0\r\n\r\n"+line, api.ErrForm)
	}
}

func TestCRWithinALine(t *testing.T) {
	returns(t, "\r\r\n", []string{"\r"})
	returns(t, "a\r\r\n", []string{"a\r"})
	returns(t, "a\rb \r c\r\r\r\n", []string{"a\rb", "\r", "c\r\r"})
	returns(t, "\r*1\r\n", []string{"\r*1"})
	fails(t, "*1\r\r\n", api.ErrForm)
	fails(t, "*\r1\r\n", api.ErrForm)
	fails(t, "*1\r\n$1\r\r\n", api.ErrForm)
	fails(t, "*1\r\n\r$1\r\n", api.ErrForm)
}

func TestInlineCommandsOfManyWords(t *testing.T) {
	for _, n := range []int{1, 2, 127, 128} {
		returns(t, strings.Repeat("x ", n)+"\r\n", times(n, "x"))
		returns(t, strings.Repeat("  xyz", n)+"\r\n", times(n, "xyz"))
	}
	for _, n := range []int{129, 130, 256, 512} {
		fails(t, strings.Repeat("x ", n)+"\r\n", api.ErrLong)
		fails(t, strings.Repeat(" x", n)+"\r\n", api.ErrLong)
	}
}

// --- P5.1: lines

func TestLinesOfMaxLineBytes(t *testing.T) {
	for _, words := range [][]string{
		{strings.Repeat("x", 1024)},
		{strings.Repeat("\r", 1024)},
		{strings.Repeat("x", 1023) + "\r"},
		{strings.Repeat("\r", 1023) + "x"},
		{strings.Repeat("x", 1000), strings.Repeat("y", 23)},
		{"a", strings.Repeat("$", 1022)},
	} {
		line := strings.Join(words, " ")
		if len(line) != api.MaxLine {
			t.Fatalf("a line of %d bytes", len(line))
		}
		returns(t, line+"\r\n", words)
		returns(t, "a\r\n"+line+"\r\n"+encoding(line)+line+"\r\n", []string{"a"}, words, []string{line}, words)
	}
	returns(t, "a"+strings.Repeat(" ", 1022)+"b\r\n", []string{"a", "b"})
	// A number of 1023 digits does not fit, but its line does.
	fails(t, "*"+strings.Repeat("1", 1023)+"\r\n", api.ErrForm)
	fails(t, "*1\r\n$"+strings.Repeat("1", 1023)+"\r\n", api.ErrForm)
	fails(t, "*1\r\n"+strings.Repeat("$", 1024)+"\r\n", api.ErrForm)
}

func TestLinesOfMoreThanMaxLineBytes(t *testing.T) {
	for _, place := range []string{"", "*1\r\n", "*2\r\n$2\r\n\r\n\r\n"} {
		for _, first := range []string{"x", "*", "$", " ", "\r"} {
			for _, filler := range []string{"1", " ", "\r", "\x00"} {
				line := func(n int) string { return place + first + strings.Repeat(filler, n-1) }
				fails(t, line(1025)+"\r", api.ErrLong)
				fails(t, line(1024)+"\rx", api.ErrLong)
				fails(t, line(1024)+"\r\r", api.ErrLong)
				fails(t, line(1026), api.ErrLong)
			}
		}
	}
	if got := fed(t, strings.Repeat("x", 1025)); !got.equal(story{nil, api.OK, 1025}) {
		t.Errorf("P5.1: of 1025 bytes: %v, want no error", got)
	}
	for _, n := range []int{1027, 5000, 100000} {
		for _, end := range []string{"", "\n", "\r\n", "\r\nPING\r\n"} {
			if got := fed(t, "PING\r\n"+strings.Repeat("x", n)+end); !got.equal(story{[][]string{{"PING"}}, api.ErrLong, 0}) {
				t.Errorf("P5.1: of %d bytes and %q: %v, want the error %d", n, end, got, api.ErrLong)
			}
		}
	}
}

func TestLFWithoutCR(t *testing.T) {
	for _, place := range []string{"", "*1\r\n", "*2\r\n$1\r\n\n\r\n"} {
		for _, line := range []string{
			"", "a", " ", "a b ", "\ra", "\r ", "a\rb", "*", "*1", "*0", "*129", "*1\r ", "$", "$1", "$-1", "$4097", "x\x00",
			strings.Repeat("x ", 129), strings.Repeat("x", 1023), strings.Repeat("x", 1024), strings.Repeat("x", 1025),
			strings.Repeat("\r", 1024) + "x", strings.Repeat(" ", 1025), "*" + strings.Repeat("1", 1024), "$" + strings.Repeat("1", 1024),
		} {
			fails(t, place+line+"\n", api.ErrForm)
		}
	}
}

// --- P5.1: numbers

func TestNumbersThatAreNoDecimalForms(t *testing.T) {
	for _, s := range []string{
		"", "-", "+", "01", "00", "-01", "0000000001", "+1", "+0", "-0", "--1", "x", "1x", "x1", "1 ", " 1", " ", "1 1", "1.0", "1e0", "0x1", "1_0", "1,2",
		"\t1", "1\x00", "\x001", "1\xff", "\u0661", "\uff11", "*1", "$1", "1\r", "1\r1", "\r", ":1",
		"9223372036854775808", "-9223372036854775809", "18446744073709551616", "18446744073709551617", "-18446744073709551615",
		"99999999999999999999", "4294967297x", strings.Repeat("9", 1000), strings.Repeat("0", 1000) + "1", "1" + strings.Repeat("0", 1000),
	} {
		fails(t, "*"+s+"\r\n", api.ErrForm)
		fails(t, "*1\r\n$"+s+"\r\n", api.ErrForm)
		fails(t, "*2\r\n$1\r\na\r\n$"+s+"\r\n", api.ErrForm)
	}
}

func TestNumbersOfWords(t *testing.T) {
	for _, n := range []int{1, 2, 9, 10, 99, 100, 127, 128} {
		returns(t, encoding(times(n, "ab")...), times(n, "ab"))
		returns(t, encoding(times(n, "")...)+"PING\r\n", times(n, ""), []string{"PING"})
	}
	for _, s := range []string{"0", "-1", "-2", "-128", "-129", "-4294967295", "-9223372036854775808"} {
		fails(t, "*"+s+"\r\n", api.ErrForm)
	}
	for _, s := range []string{"129", "130", "200", "1000", "4096", "4294967296", "4294967297", "9223372036854775806", "9223372036854775807"} {
		fails(t, "*"+s+"\r\n", api.ErrLong)
	}
}

func TestNumbersOfBytes(t *testing.T) {
	for _, n := range []int{0, 1, 2, 9, 10, 99, 100, 1022, 1023, 1024, 1025, 1026, 1027, 4094, 4095, 4096} {
		w := strings.Repeat("x\r\n", n)[:n]
		returns(t, encoding(w), []string{w})
		returns(t, encoding("a", w, w)+encoding(w), []string{"a", w, w}, []string{w})
	}
	for _, place := range []string{"*1\r\n", "*128\r\n", "*2\r\n$0\r\n\r\n"} {
		for _, s := range []string{"-1", "-2", "-4096", "-4294967296", "-9223372036854775807", "-9223372036854775808"} {
			fails(t, place+"$"+s+"\r\n", api.ErrForm)
		}
		for _, s := range []string{"4097", "4098", "5000", "65536", "4294967296", "4294967297", "9223372036854775805", "9223372036854775806", "9223372036854775807"} {
			fails(t, place+"$"+s+"\r\n", api.ErrLong)
		}
	}
}

// --- P5.1: words of an array

func TestLineBeforeAWord(t *testing.T) {
	for _, line := range []string{"", " ", "a", "1", "0", "*1", "*0", "*129", ":1", "+1", "-1", " $1", "\r$1", "\x00$1", "x$1", "PING", "GET a", "\xa41", "$$1", strings.Repeat("x ", 129)} {
		fails(t, "*1\r\n"+line+"\r\n", api.ErrForm)
		fails(t, "*3\r\n$1\r\na\r\n"+line+"\r\n", api.ErrForm)
		fails(t, "*2\r\n$2\r\n\r\n\r\n"+line+"\r\n", api.ErrForm)
	}
}

// TestBytesBehindAWord takes all pairs of bytes: the first of them tells nothing as yet.
func TestBytesBehindAWord(t *testing.T) {
	for _, w := range []string{"", "a", "\r\n"} {
		for pair := range 1 << 16 {
			behind := string([]byte{byte(pair >> 8), byte(pair)})
			begin := fmt.Sprintf("*1\r\n$%d\r\n%s%s", len(w), w, behind[:1])
			want := story{nil, api.ErrForm, 0}
			if behind == "\r\n" {
				want = story{[][]string{{w}}, api.OK, 0}
			}
			var a story
			r := New()
			feed(t, r, &a, begin)
			if !a.equal(story{nil, api.OK, len(begin)}) {
				t.Fatalf("P5.1: of %q: %v, want no error as yet", begin, a)
			}
			feed(t, r, &a, behind[1:])
			if !a.equal(want) {
				t.Fatalf("P5.1: of %q: %v, want %v", begin+behind[1:], a, want)
			}
		}
	}
}

func TestWordsNotFollowedByCRLF(t *testing.T) {
	for _, behind := range []string{"x\n", "\rx", "\n\r", "\r\r", "\n\n", "  ", "xy", "\x00\n", "$1", "*1"} {
		for _, w := range []string{"", "a", "\r\n", strings.Repeat("x", 4096)} {
			size := fmt.Sprintf("$%d\r\n", len(w))
			fails(t, "*1\r\n"+size+w+behind, api.ErrForm)
			fails(t, "*3\r\n$1\r\na\r\n"+size+w+behind, api.ErrForm)
		}
	}
	// Words that are longer or shorter than their lines say.
	fails(t, "*1\r\n$1\r\nab\r", api.ErrForm)
	fails(t, "*2\r\n$2\r\na\r\n$", api.ErrForm)
	fails(t, "*2\r\n$3\r\na\r\n$1", api.ErrForm)
	fails(t, "*2\r\n$0\r\na\r", api.ErrForm)
	returns(t, "*2\r\n$3\r\na\r\n\r\n$1\r\n\r\r\n", []string{"a\r\n", "\r"})
}

// --- P5.1: errors

// wrongs are inputs with an error at their last byte.
func wrongs() map[string]api.Errno {
	return map[string]api.Errno{
		"a\n":                                 api.ErrForm,
		"*0\r\n":                              api.ErrForm,
		"*+1\r\n":                             api.ErrForm,
		"*129\r\n":                            api.ErrLong,
		"*1\r\na\r\n":                         api.ErrForm,
		"*1\r\n$-1\r\n":                       api.ErrForm,
		"*1\r\n$4097\r\n":                     api.ErrLong,
		"*2\r\n$1\r\na\r\n$1\r\nabc":          api.ErrForm,
		strings.Repeat("x", 1026):             api.ErrLong,
		strings.Repeat("x ", 129) + "\r\n":    api.ErrLong,
		"*1\r\n$" + strings.Repeat("1", 1025): api.ErrLong,
	}
}

func TestTheFirstErrorCounts(t *testing.T) {
	for first, want := range wrongs() {
		for second := range wrongs() {
			for _, between := range []string{"", "\r\n", "PING\r\n", encoding("a")} {
				all := "a\r\n" + first + between + second
				tells(t, all, story{[][]string{{"a"}}, want, 0})
				tells(t, all+all, story{[][]string{{"a"}}, want, 0})
			}
		}
	}
	// Of two errors in one place, the one that the chapter names first: a line's own, then that of its number.
	fails(t, "*129\n", api.ErrForm)
	fails(t, "*1\r\n$4097\n", api.ErrForm)
	fails(t, strings.Repeat("x ", 129)+"\n", api.ErrForm)
	fails(t, "*x"+strings.Repeat("1", 1024), api.ErrLong)
	fails(t, "*1\r\nx"+strings.Repeat("1", 1025), api.ErrLong)
	// Two errors in one command.
	tells(t, "*129\r\n$-1\r\n", story{nil, api.ErrLong, 0})
	tells(t, "*1\r\n$4097\r\nx\n", story{nil, api.ErrLong, 0})
	tells(t, "*2\r\n$1\r\nabc$4097\r\n", story{nil, api.ErrForm, 0})
}

func TestCommandsAheadOfAnErrorAreBesideIt(t *testing.T) {
	for s, want := range wrongs() {
		r := New()
		commands, e := r.Feed([]byte("PING\r\n"+encoding("a", "")), []byte("\r\n GET  a\r\n"+s), []byte("PING\r\n"))
		if !slices.EqualFunc(commands, [][]string{{"PING"}, {"a", ""}, {"GET", "a"}}, slices.Equal) || e != want {
			t.Errorf("P5.1: Feed of three commands and %.80q = %q, %d, want them and %d", s, commands, e, want)
		}
	}
}

func TestErrorsArePermanent(t *testing.T) {
	for s, want := range wrongs() {
		r := New()
		r.Feed([]byte("PING\r\n" + s))
		for _, bs := range [][][]byte{
			nil, {nil}, {{}}, {{}, nil}, {[]byte("PING\r\n")}, {[]byte(encoding("a", "b"))}, {[]byte("\r\n"), []byte("PING\r\n"), []byte("x")},
			{[]byte("a\n")}, {[]byte("*129\r\n")}, {[]byte("*1\r\n$1")}, {[]byte("\r\na\r\n")}, {make([]byte, 5000)}, nil,
		} {
			for range 2 {
				if commands, e := r.Feed(bs...); len(commands) != 0 || e != want {
					t.Errorf("P5.1: after %.80q Feed(%.80q) = %q, %d, want nothing and %d", s, bs, commands, e, want)
				}
				if n := r.Waiting(); n != 0 {
					t.Errorf("P5.1: after %.80q and Feed(%.80q) %d bytes are waiting", s, bs, n)
				}
			}
		}
	}
}

// --- P5.1: what is fed, and what waits

func TestFeedOfNothing(t *testing.T) {
	whole := " a\r\n" + encoding("b", "\r\n") + "\r\nc d\r\n"
	for _, nothing := range [][][]byte{nil, {}, {nil}, {{}}, {nil, {}, nil}, make([][]byte, 1000)} {
		r := New()
		var commands [][]string
		for i := range len(whole) + 1 {
			waiting := r.Waiting()
			if more, e := r.Feed(nothing...); len(more) != 0 || e != api.OK || r.Waiting() != waiting {
				t.Fatalf("P5.1: Feed of nothing at %d = %q, %d, %d waiting before and %d after", i, more, e, waiting, r.Waiting())
			}
			more, _ := r.Feed([]byte(whole[i:min(i+1, len(whole))]))
			commands = append(commands, more...)
		}
		if !slices.EqualFunc(commands, [][]string{{"a"}, {"b", "\r\n"}, {"c", "d"}}, slices.Equal) || r.Waiting() != 0 {
			t.Errorf("P5.1: %q, %d waiting", commands, r.Waiting())
		}
	}
}

func TestANewReaderHasNothing(t *testing.T) {
	r := New()
	if n := r.Waiting(); n != 0 {
		t.Errorf("P5.1: %d bytes are waiting", n)
	}
	if commands, e := r.Feed(); len(commands) != 0 || e != api.OK {
		t.Errorf("P5.1: Feed() = %q, %d", commands, e)
	}
}

func TestWaitingAtEveryPlace(t *testing.T) {
	parts := []string{
		"PING\r\n", "\r\n", "  \r\n", " GET  a \r\n", encoding("GET", "a"), encoding(""), "\r\n", encoding("\r\n", "x\r\ny", "*1\r\n"), "\r\r\n",
		encoding(times(12, "0123456789")...), "x\r\n", strings.Repeat(" ", 30) + "\r\n", "*3\r\n$1\r\n\n\r\n$10\r\n01234",
	}
	var ends []int
	at := 0
	for _, part := range parts {
		ends = append(ends, at)
		at += len(part)
	}
	all := strings.Join(parts, "")
	r := New()
	for i := range len(all) {
		r.Feed([]byte(all[i : i+1]))
		last := 0
		for _, end := range ends {
			if end <= i+1 {
				last = end
			}
		}
		want := i + 1 - last
		if n := r.Waiting(); n != want {
			t.Errorf("P5.1: behind %q %d bytes are waiting, want %d", all[:i+1], n, want)
		}
		if n := fed(t, all[:i+1]).waiting; n != want {
			t.Errorf("P5.1: behind %q, which came at once, %d bytes are waiting, want %d", all[:i+1], n, want)
		}
		if n := r.Waiting(); n != want {
			t.Errorf("P5.1: behind %q %d bytes are waiting when it is asked again, want %d", all[:i+1], n, want)
		}
	}
}

func TestWaitingOfExamples(t *testing.T) {
	for s, want := range map[string]int{
		"": 0, "P": 1, "PING": 4, "PING\r": 5, "PING\r\n": 0, "PING\r\nP": 1, "\r": 1, "\r\n": 0, "   ": 3, "  \r\n ": 1, "*": 1, "*1\r": 3, "*1\r\n": 4,
		"*1\r\n$": 5, "*1\r\n$4\r\n": 8, "*1\r\n$4\r\nPI": 10, "*1\r\n$4\r\nPING": 12, "*1\r\n$4\r\nPING\r": 13, "*1\r\n$4\r\nPING\r\n": 0,
		"*2\r\n$4\r\nPING\r\n": 14, "*2\r\n$4\r\nPING\r\n$0\r\n\r": 19, "*2\r\n$4\r\nPING\r\n$0\r\n\r\n": 0, "\r\n*2\r\n$4\r\nPING\r\n": 14,
		"\n": 0, "PING\r\nPING\n": 0, "*2\r\n$4\r\nPING\r\n\r\n": 0,
	} {
		for name, parts := range map[string][]string{"at once": {s}, "in single bytes": singles(s)} {
			if n := fed(t, parts...).waiting; n != want {
				t.Errorf("P5.1: behind %q, %s, %d bytes are waiting, want %d", s, name, n, want)
			}
		}
	}
}

// --- P5.3: how the input is divided

// samples are inputs with and without errors, complete and not.
func samples() []string {
	all := []string{
		"*1\r\n$4\r\nPING\r\n SET a  b \r\n*",
		"PING\r\n\r\n  \r\n GET a \r\n" + encoding("SET", "a", "x\r\ny") + encoding("", "\r\n") + "\r\r\n" + encoding("*1\r\n$1\r\na\r\n") + "PI",
		encoding(times(12, "0123456789")...) + " a\r\n" + encoding("a") + encoding("b") + "*2\r\n$3\r\n\r\n\r\r\n$1\r\nx\r",
		encoding(times(128, "")...) + encoding(times(128, "\r\n")...) + strings.Repeat("x ", 128) + "\r\n",
		strings.Repeat("x", 1024) + "\r\n" + encoding(strings.Repeat("\r", 1500)) + strings.Repeat(" ", 1024) + "\r\n" + strings.Repeat("y", 1024) + "\r",
		strings.Repeat("\r\n", 20) + "a\r\n" + strings.Repeat(" \r\n", 20),
	}
	for s := range wrongs() {
		all = append(all, encoding("a", "\r\n")+"\r\nb  c\r\n"+s+"PING\r\n"+encoding("PING"))
	}
	return all
}

func TestDivisionsIntoTwo(t *testing.T) {
	for _, s := range samples() {
		want := slow(s)
		if got := fed(t, s); !got.equal(want) {
			t.Errorf("P5.3: of %.120q at once: %v, want %v", s, got, want)
		}
		if got := fed(t, singles(s)...); !got.equal(want) {
			t.Errorf("P5.3: of %.120q in single bytes: %v, want %v", s, got, want)
		}
		for i := range len(s) + 1 {
			var a story
			r := New()
			feed(t, r, &a, s[:i])
			if early := slow(s[:i]); !a.equal(early) {
				t.Fatalf("P5.1: of the first %d bytes of %.120q: %v, want %v", i, s, a, early)
			}
			feed(t, r, &a, s[i:])
			if !a.equal(want) {
				t.Fatalf("P5.3: of %.120q divided at %d: %v, want %v", s, i, a, want)
			}
		}
	}
}

func TestDivisionsIntoThree(t *testing.T) {
	for _, s := range samples() {
		s = s[:min(len(s), 100)]
		want := slow(s)
		for i := range len(s) + 1 {
			for j := i; j <= len(s); j++ {
				if got := fed(t, s[:i], s[i:j], s[j:]); !got.equal(want) {
					t.Fatalf("P5.3: of %.120q divided at %d and %d: %v, want %v", s, i, j, got, want)
				}
			}
		}
	}
}

func TestAllDivisionsOfShortInputs(t *testing.T) {
	for _, s := range []string{"*1\r\n$1\r\na\r\n", "a b\r\n\r\nc\r\n", "*1\r\n$0\r\n\r\nx", "a\r\n*0\r\n", "*1\r\n$1\r\naxx", " \r\n\r\r\na\nb\r\n"} {
		want := slow(s)
		for cuts := range 1 << (len(s) - 1) {
			parts := []string{s[:1]}
			for i := 1; i < len(s); i++ {
				if cuts>>(i-1)&1 == 1 {
					parts = append(parts, "")
				}
				parts[len(parts)-1] += s[i : i+1]
			}
			if got := fed(t, parts...); !got.equal(want) {
				t.Fatalf("P5.3: of %q: %v, want %v", parts, got, want)
			}
		}
	}
}

func TestFeedOfSeveralSlices(t *testing.T) {
	for _, s := range samples() {
		want := slow(s)
		check := func(how string, bs ...[]byte) {
			t.Helper()
			r := New()
			commands, e := r.Feed(bs...)
			if got := (story{commands, e, r.Waiting()}); !got.equal(want) {
				t.Fatalf("P5.3: of %.120q in slices of one Feed, %s: %v, want %v", s, how, got, want)
			}
		}
		for i := range len(s) + 1 {
			check(fmt.Sprint("two at ", i), []byte(s[:i]), []byte(s[i:]))
		}
		var single, sparse [][]byte
		for _, part := range singles(s) {
			single = append(single, []byte(part))
			sparse = append(sparse, nil, []byte(part), []byte{})
		}
		check("single bytes", single...)
		check("single bytes between empty slices", sparse...)
	}
}

func TestRandomDivisions(t *testing.T) {
	random := rand.New(rand.NewSource(5))
	for range 300 {
		var s strings.Builder
		var commands [][]string
		for range 1 + random.Intn(8) {
			words := randomCommand(random)
			commands = append(commands, words)
			s.Write(Print(words...))
			if random.Intn(2) == 0 {
				w := plains()[random.Intn(len(plains()))]
				commands = append(commands, []string{"x", w})
				s.WriteString(" x  " + w + "\r\n   \r\n")
			}
		}
		for range 5 {
			if got := fed(t, cut(random, s.String())...); !got.equal(story{commands: commands}) {
				t.Fatalf("P5.3: of %.200q: %v, want %d commands %.200q", s.String(), got, len(commands), commands)
			}
		}
	}
}

// randomCommand has words of random bytes, many of them bytes that encodings are made of.
func randomCommand(random *rand.Rand) []string {
	const signs = "\r\n\r\n *$0129-ab\x00\xff"
	var words []string
	for range 1 + random.Intn(6) {
		w := make([]byte, random.Intn(20))
		for i := range w {
			w[i] = signs[random.Intn(len(signs))]
		}
		words = append(words, string(w))
	}
	return words
}

// cut divides s at random.
func cut(random *rand.Rand, s string) []string {
	var parts []string
	for s != "" {
		n := 1 + random.Intn(min(len(s), 1<<random.Intn(8)))
		parts, s = append(parts, s[:n]), s[n:]
	}
	return parts
}

// TestLargestCommandInSingleBytes would take very long if what has come were examined anew for each byte.
func TestLargestCommandInSingleBytes(t *testing.T) {
	words := times(128, strings.Repeat("x\r\n$", 1024))
	s := []byte(encoding(words...))
	r := New()
	for i := range s {
		commands, e := r.Feed(s[i : i+1])
		if i < len(s)-1 && (len(commands) != 0 || e != api.OK || r.Waiting() != i+1) {
			t.Fatalf("P5.3: behind %d bytes: %d commands, error %d, %d waiting", i+1, len(commands), e, r.Waiting())
		}
		if i == len(s)-1 && (len(commands) != 1 || !slices.Equal(commands[0], words) || e != api.OK || r.Waiting() != 0) {
			t.Fatalf("P5.3: of all bytes: %d commands, error %d, %d waiting", len(commands), e, r.Waiting())
		}
	}
}

func TestManyCommandsAtOnce(t *testing.T) {
	one := encoding("SET", "a", "\r\n") + "\r\nGET a\r\n"
	got := fed(t, strings.Repeat(one, 20000), one+"*")
	want := story{slices.Repeat([][]string{{"SET", "a", "\r\n"}, {"GET", "a"}}, 20001), api.OK, 1}
	if !got.equal(want) {
		t.Errorf("P5.3: of 40002 commands: %d commands, error %d, %d waiting", len(got.commands), got.err, got.waiting)
	}
}

// --- P5.1 and P5.3: against the slow reader

// TestAllShortInputs takes all inputs of five of these bytes, and so all shorter ones.
func TestAllShortInputs(t *testing.T) {
	const signs = "*$012-\r\n a"
	var extend func(s string)
	extend = func(s string) {
		if len(s) == 5 {
			follows(t, s)
			return
		}
		for i := range len(signs) {
			extend(s + signs[i:i+1])
		}
	}
	extend("")
}

// TestInputsOfParts takes all inputs of up to five of these parts, and of up to four with the beginning of an array ahead.
func TestInputsOfParts(t *testing.T) {
	parts := []string{"*1\r\n", "*2\r\n", "$1\r\n", "$0\r\n", "\r\n", "\r", "\n", "a", " ", "$"}
	var extend func(s string, more int)
	extend = func(s string, more int) {
		if got, want := fed(t, s), slow(s); !got.equal(want) {
			t.Fatalf("P5.1: of %q: %v, want %v", s, got, want)
		}
		if more == 0 {
			return
		}
		for _, part := range parts {
			extend(s+part, more-1)
		}
	}
	extend("", 5)
	extend("*1\r\n$2\r\n", 4)
	extend("*2\r\n$1\r\na\r\n", 4)
	extend("a\r\n*1\r\n$1\r\n", 4)
}

func TestInputsWithOneChange(t *testing.T) {
	for _, s := range []string{
		encoding("SET", "a", "x\r\ny") + "GET a\r\n" + encoding(""),
		" a  b \r\n\r\n" + encoding("0123456789ab") + "\r\r\n" + encoding("\r\n"),
		encoding(times(12, "*1\r\n")...),
	} {
		for i := range len(s) + 1 {
			for b := range 256 {
				sign := string([]byte{byte(b)})
				for _, changed := range []string{s[:i] + sign + s[i:], s[:i] + sign + s[min(i+1, len(s)):]} {
					if got, want := fed(t, changed), slow(changed); !got.equal(want) {
						t.Fatalf("P5.1: of %.120q: %v, want %v", changed, got, want)
					}
					if strings.Contains("\r\n *$01-a", sign) {
						follows(t, changed)
					}
				}
			}
			follows(t, s[:i]+s[min(i+1, len(s)):])
			follows(t, s[:i]+s[min(i+2, len(s)):])
		}
	}
}

// --- P5.3: several readers

func TestTwoReaders(t *testing.T) {
	for _, first := range samples() {
		for _, second := range samples() {
			var a, b story
			one, two := New(), New()
			for i := range max(len(first), len(second)) {
				if i < len(first) {
					feed(t, one, &a, first[i:i+1])
				}
				if i < len(second) {
					feed(t, two, &b, second[i:i+1])
				}
			}
			if want := slow(first); !a.equal(want) {
				t.Errorf("P5.3: of %.120q beside another reader: %v, want %v", first, a, want)
			}
			if want := slow(second); !b.equal(want) {
				t.Errorf("P5.3: of %.120q beside another reader: %v, want %v", second, b, want)
			}
		}
	}
}

// --- P5.2: Print

func TestPrint(t *testing.T) {
	for want, words := range map[string][]string{
		"*1\r\n$4\r\nPING\r\n":                                 {"PING"},
		"*1\r\n$0\r\n\r\n":                                     {""},
		"*2\r\n$3\r\nGET\r\n$3\r\na b\r\n":                     {"GET", "a b"},
		"*3\r\n$1\r\na\r\n$0\r\n\r\n$1\r\na\r\n":               {"a", "", "a"},
		"*1\r\n$2\r\n\r\n\r\n":                                 {"\r\n"},
		"*1\r\n$2\r\n\xc3\xa9\r\n":                             {"\u00e9"},
		"*1\r\n$10\r\n*1\r\n$1\r\na\r\r\n":                     {"*1\r\n$1\r\na\r"},
		"*2\r\n$2\r\n*1\r\n$2\r\n$1\r\n":                       {"*1", "$1"},
		"*1\r\n$4\r\n\x00\xff\x80 \r\n":                        {"\x00\xff\x80 "},
		"*2\r\n$10\r\n0123456789\r\n$1\r\n0\r\n":               {"0123456789", "0"},
		"*1\r\n$1024\r\n" + strings.Repeat("x", 1024) + "\r\n": {strings.Repeat("x", 1024)},
	} {
		if got := string(Print(words...)); got != want {
			t.Errorf("P5.2: Print(%.80q) = %.80q, want %.80q", words, got, want)
		}
	}
	for _, w := range texts() {
		for _, words := range [][]string{{w}, {w, w}, {"SET", w, ""}} {
			if got := string(Print(words...)); got != encoding(words...) {
				t.Errorf("P5.2: Print(%.80q) = %.80q", words, got)
			}
		}
	}
}

func TestPrintOfManyWords(t *testing.T) {
	for _, w := range []string{"", "a", strings.Repeat("\r\n", 2048)} {
		for _, n := range []int{1, 9, 10, 99, 100, 127, 128} {
			if got := string(Print(times(n, w)...)); got != encoding(times(n, w)...) {
				t.Errorf("P5.2: Print of %d words of %d bytes = %.80q", n, len(w), got)
			}
		}
		for _, n := range []int{0, 129, 130, 256, 257, 1000} {
			if got := Print(times(n, w)...); len(got) != 0 {
				t.Errorf("P5.2: Print of %d words of %d bytes = %.80q, want nothing", n, len(w), got)
			}
		}
	}
	if got := Print(); len(got) != 0 {
		t.Errorf("P5.2: Print() = %q, want nothing", got)
	}
}

func TestPrintOfLongWords(t *testing.T) {
	for _, n := range []int{4094, 4095, 4096} {
		w := strings.Repeat("x", n)
		if got := string(Print("SET", w, w)); got != encoding("SET", w, w) {
			t.Errorf("P5.2: Print of words of %d bytes = %.80q", n, got)
		}
	}
	for _, n := range []int{4097, 4098, 8192, 100000} {
		long := strings.Repeat("x", n)
		for _, count := range []int{1, 2, 3, 128, 129} {
			for _, at := range []int{0, count / 2, count - 1} {
				words := times(count, "a")
				words[at] = long
				if got := Print(words...); len(got) != 0 {
					t.Errorf("P5.2: Print of %d words, one of %d bytes at %d, = %.80q, want nothing", count, n, at, got)
				}
			}
		}
	}
}

func TestPrintedCommandsAreReadBack(t *testing.T) {
	var all strings.Builder
	var commands [][]string
	add := func(words ...string) {
		all.Write(Print(words...))
		commands = append(commands, words)
	}
	for _, w := range texts() {
		add(w)
		add(w, "", w)
	}
	add(texts()...)
	for _, n := range []int{1, 2, 127, 128} {
		add(times(n, "")...)
		add(times(n, "\r\n")...)
	}
	random := rand.New(rand.NewSource(7))
	for range 2000 {
		add(randomCommand(random)...)
	}
	add(times(128, strings.Repeat("*", 4096))...)
	for _, parts := range [][]string{{all.String()}, singles(all.String()), cut(random, all.String())} {
		got := fed(t, parts...)
		if !got.equal(story{commands: commands}) {
			t.Errorf("P5.3: %d printed commands in %d parts: %d commands, error %d, %d waiting", len(commands), len(parts), len(got.commands), got.err, got.waiting)
		}
	}
}

// --- P5.3: memory

// roomy is a copy of s before spare capacity, and all of its memory.
func roomy(s string) (part, all []byte) {
	all = []byte(s + "spare capacity..")
	return all[:len(s)], all
}

// scribble writes over all of b, spare capacity included.
func scribble(b []byte) {
	b = b[:cap(b)]
	for i := range b {
		b[i] = '#'
	}
}

// shared tells whether two slices have memory in common, spare capacity included.
func shared[T any](a, b []T) bool {
	if cap(a) == 0 || cap(b) == 0 {
		return false
	}
	size := unsafe.Sizeof(a[:1][0])
	from := uintptr(unsafe.Pointer(unsafe.SliceData(a)))
	at := uintptr(unsafe.Pointer(unsafe.SliceData(b)))
	return from < at+uintptr(cap(b))*size && at < from+uintptr(cap(a))*size
}

func TestFeedNeitherChangesNorKeepsArguments(t *testing.T) {
	for _, s := range samples() {
		for _, size := range []int{1, 3, 50, len(s)} {
			for others := range 3 {
				var a story
				r := New()
				for rest := s; rest != ""; {
					var parts, alls [][]byte
					for range 1 + others {
						n := min(size, len(rest))
						part, all := roomy(rest[:n])
						parts, alls, rest = append(parts, part), append(alls, all), rest[n:]
					}
					before := fmt.Sprintf("%q %q", parts, alls)
					commands, e := r.Feed(parts...)
					if after := fmt.Sprintf("%q %q", parts, alls); after != before {
						t.Errorf("P5.3: Feed made %.200s of %.200s", after, before)
					}
					a.commands, a.err, a.waiting = append(a.commands, commands...), e, r.Waiting()
					for i := range parts {
						scribble(alls[i])
						parts[i] = nil
					}
				}
				if want := slow(s); !a.equal(want) {
					t.Errorf("P5.3: of %.120q, where what was fed is written over: %v, want %v", s, a, want)
				}
			}
		}
	}
}

func TestOneBufferForAllInput(t *testing.T) {
	for _, s := range samples() {
		var a story
		r := New()
		buffer := make([]byte, 64)
		for at := 0; at < len(s); {
			n := copy(buffer, s[at:])
			at += n
			commands, e := r.Feed(buffer[:n])
			a.commands, a.err, a.waiting = append(a.commands, commands...), e, r.Waiting()
			scribble(buffer)
		}
		if want := slow(s); !a.equal(want) {
			t.Errorf("P5.3: of %.120q by way of one buffer: %v, want %v", s, a, want)
		}
	}
}

func TestCommandsAreNewMemory(t *testing.T) {
	s := encoding("a", "b", "c") + "d e f\r\n" + encoding("g") + " h \r\n" + encoding(times(128, "i")...) + strings.Repeat("j ", 128) + "\r\n"
	var all [][][]string
	r := New()
	for range 3 {
		commands, _ := r.Feed([]byte(s))
		all = append(all, commands)
	}
	var lists [][]string
	for i, commands := range all {
		for _, others := range all[:i] {
			if shared(commands, others) {
				t.Error("P5.3: two results of Feed share memory")
			}
		}
		lists = append(lists, commands...)
	}
	if len(lists) != 18 {
		t.Fatalf("P5.3: %d commands, want 18", len(lists))
	}
	for i, words := range lists {
		for _, others := range lists[:i] {
			if shared(words, others) {
				t.Errorf("P5.3: the commands %.40q and %.40q share memory", words, others)
			}
		}
	}
}

func TestReadersDoNotSeeWhatIsDoneToCommands(t *testing.T) {
	for _, s := range samples() {
		var a story
		r := New()
		for i := range len(s) {
			commands, e := r.Feed([]byte(s[i : i+1]))
			for j, words := range commands {
				a.commands = append(a.commands, slices.Clone(words))
				for k := range words[:cap(words)] {
					words[:cap(words)][k] = "#"
				}
				commands[j] = nil
			}
			a.err, a.waiting = e, r.Waiting()
		}
		if want := slow(s); !a.equal(want) {
			t.Errorf("P5.3: of %.120q, where commands are written over: %v, want %v", s, a, want)
		}
	}
}

func TestPrintNeitherChangesNorKeepsArguments(t *testing.T) {
	all := append(texts(), "spare", "capacity")
	words := all[:len(all)-2]
	before := slices.Clone(all)
	b := Print(words...)
	if !slices.Equal(all, before) {
		t.Errorf("P5.3: Print made %.200q of %.200q", all, before)
	}
	want := encoding(words...)
	for i := range all {
		all[i] = "#"
	}
	if string(b) != want {
		t.Errorf("P5.3: what Print returned is %.80q when its arguments have changed, want %.80q", b, want)
	}
}

func TestPrintedBytesAreNewMemory(t *testing.T) {
	words := []string{"GET", "a", ""}
	first := Print(words...)
	second := Print(words...)
	if shared(first, second) {
		t.Error("P5.3: two results of Print share memory")
	}
	scribble(first)
	for _, b := range [][]byte{second, Print(words...)} {
		if string(b) != "*3\r\n$3\r\nGET\r\n$1\r\na\r\n$0\r\n\r\n" {
			t.Errorf("P5.3: Print = %q when another result is written over", b)
		}
	}
}
