package crc

import (
	"bytes"
	"hash/crc32"
	"math/bits"
	"math/rand"
	"slices"
	"testing"
	"unsafe"
)

// --- the checksum by the chapter's words, and inputs

// slowSum is the checksum of b, bit by bit.
func slowSum(b []byte) uint32 {
	register := uint32(0xFFFFFFFF)
	for i := 0; i < len(b); i++ {
		register = register&0xFFFFFF00 | uint32(byte(register)^b[i])
		for shifts := 0; shifts < 8; shifts++ {
			out := register % 2
			register /= 2
			if out == 1 {
				register ^= 0xEDB88320
			}
		}
	}
	return 0xFFFFFFFF - register
}

// slowSeal is the Seal of b.
func slowSeal(b []byte) []byte {
	n := slowSum(b)
	return slices.Concat(b, []byte{byte(n), byte(n >> 8), byte(n >> 16), byte(n >> 24)})
}

// noise are n bytes that look random.
func noise(seed int64, n int) []byte {
	b := make([]byte, n)
	rand.New(rand.NewSource(seed)).Read(b)
	return b
}

// samples are inputs of many lengths: texts, single bytes, runs of one byte, noise.
func samples() [][]byte {
	all := [][]byte{nil, {}, []byte("a"), []byte("abc"), []byte("123456789"), []byte("\x26\x39\xf4\xcb")}
	for b := range 256 {
		all = append(all, []byte{byte(b)})
	}
	for n := 2; n <= 70; n++ {
		all = append(all, make([]byte, n), bytes.Repeat([]byte{0xff}, n), noise(int64(n), n))
	}
	return append(all, noise(1, 4096), noise(2, 4099))
}

// roomy is a copy of b before 16 bytes of spare capacity, and all of its memory.
func roomy(b []byte) (part, all []byte) {
	all = slices.Concat(b, []byte("spare capacity.."))
	return all[:len(b)], all
}

// shared tells whether two slices have memory in common, spare capacity included.
func shared(a, b []byte) bool {
	if cap(a) == 0 || cap(b) == 0 {
		return false
	}
	from := uintptr(unsafe.Pointer(unsafe.SliceData(a)))
	at := uintptr(unsafe.Pointer(unsafe.SliceData(b)))
	return from < at+uintptr(cap(b)) && at < from+uintptr(cap(a))
}

// refuse asks that Open returns an empty slice and false.
func refuse(t *testing.T, promise string, b []byte) {
	t.Helper()
	if got, ok := Open(b); ok || len(got) != 0 {
		t.Errorf("%s: Open(%.80x) = %.80x, %v, want nothing and false", promise, b, got, ok)
	}
}

// --- P3.1: Sum

func TestSumOfTexts(t *testing.T) {
	for s, want := range map[string]uint32{
		"":                     0,
		"a":                    0xE8B7BE43,
		"abc":                  0x352441C2,
		"123456789":            0xCBF43926,
		"message digest":       0x20159D7F,
		"\x00":                 0xD202EF8D,
		"\xff":                 0xFF000000,
		"\x00\x00\x00\x00":     0x2144DF1C,
		"\xff\xff\xff\xff":     0xFFFFFFFF,
		"\xff\xff\xff\xff\x00": 0xFFFFFFFF,
		"The quick brown fox jumps over the lazy dog": 0x414FA339,
	} {
		if got := Sum([]byte(s)); got != want {
			t.Errorf("P3.1: Sum(%q) = %08X, want %08X", s, got, want)
		}
	}
}

func TestSumOfNothing(t *testing.T) {
	for i, bs := range [][][]byte{nil, {}, {nil}, {{}}, {nil, nil}, {{}, nil, {}}, make([][]byte, 1000)} {
		if got := Sum(bs...); got != 0 {
			t.Errorf("P3.1: Sum of nothing, case %d, = %08X, want 0", i, got)
		}
	}
	if got := Sum(); got != 0 {
		t.Errorf("P3.1: Sum() = %08X, want 0", got)
	}
}

func TestSumOfSamples(t *testing.T) {
	for _, b := range samples() {
		got := Sum(b)
		if want := slowSum(b); got != want {
			t.Errorf("P3.1: Sum(%.80x) = %08X, want %08X by the chapter", b, got, want)
		}
		if want := crc32.ChecksumIEEE(b); got != want {
			t.Errorf("P3.1: Sum(%.80x) = %08X, want %08X by the library", b, got, want)
		}
	}
}

func TestSumOfTwoBytes(t *testing.T) {
	for n := range 1 << 16 {
		b := []byte{byte(n), byte(n >> 8)}
		if got, want := Sum(b), crc32.ChecksumIEEE(b); got != want {
			t.Fatalf("P3.1: Sum(%x) = %08X, want %08X", b, got, want)
		}
	}
}

func TestSumOfLongInputs(t *testing.T) {
	for _, b := range [][]byte{make([]byte, 1<<20), bytes.Repeat([]byte{0xff}, 1<<20), noise(3, 1<<20), noise(4, 5<<20+3)} {
		if got, want := Sum(b), crc32.ChecksumIEEE(b); got != want {
			t.Errorf("P3.1: Sum of %d bytes = %08X, want %08X", len(b), got, want)
		}
	}
}

// --- P3.2: how the bytes are divided into arguments

// divisions are all ways to divide b, with and without an empty argument before each part and up to two at the end.
func divisions(b []byte) [][][]byte {
	if len(b) == 0 {
		return [][][]byte{nil, {nil}, {{}, nil}}
	}
	var all [][][]byte
	for n := 1; n <= len(b); n++ {
		for _, behind := range divisions(b[n:]) {
			for empties := range 2 {
				parts := slices.Concat(make([][]byte, empties), [][]byte{b[:n]}, behind)
				all = append(all, parts)
			}
		}
	}
	return all
}

func TestSumOfEveryDivision(t *testing.T) {
	for _, s := range []string{"", "1", "12", "12345", "\x00\x00\x00\x00\x00\x00", "\xff\x00\xfe\x80\x01\x7f"} {
		want := crc32.ChecksumIEEE([]byte(s))
		for _, parts := range divisions([]byte(s)) {
			if got := Sum(parts...); got != want {
				t.Fatalf("P3.2: Sum of %q in the parts %q = %08X, want %08X", s, parts, got, want)
			}
		}
	}
}

func TestSumOfLongDivisions(t *testing.T) {
	b := noise(5, 1000)
	want := crc32.ChecksumIEEE(b)
	for at := range len(b) + 1 {
		if got := Sum(b[:at], b[at:]); got != want {
			t.Fatalf("P3.2: Sum of %d and %d bytes = %08X, want %08X", at, len(b)-at, got, want)
		}
	}
	for n := 1; n <= 70; n++ {
		if got := Sum(slices.Collect(slices.Chunk(b, n))...); got != want {
			t.Fatalf("P3.2: Sum of parts of %d bytes = %08X, want %08X", n, got, want)
		}
	}
}

func TestSumOfOverlappingArguments(t *testing.T) {
	b := noise(6, 100)
	for _, parts := range [][][]byte{{b, b}, {b, b, b}, {b[10:50], b[:60], b[40:]}, {b[99:], b[:1]}} {
		if got, want := Sum(parts...), crc32.ChecksumIEEE(slices.Concat(parts...)); got != want {
			t.Errorf("P3.2: Sum of %d overlapping arguments = %08X, want %08X", len(parts), got, want)
		}
	}
}

// --- P3.1: Seal and Open

func TestSealOfTexts(t *testing.T) {
	for s, want := range map[string]string{
		"":          "\x00\x00\x00\x00",
		"123456789": "123456789\x26\x39\xf4\xcb",
		"a":         "a\x43\xbe\xb7\xe8",
		"\x00":      "\x00\x8d\xef\x02\xd2",
		"\xff":      "\xff\x00\x00\x00\xff",
	} {
		if got := Seal([]byte(s)); string(got) != want {
			t.Errorf("P3.1: Seal(%q) = %x, want %x", s, got, want)
		}
	}
	if got := Seal(nil); string(got) != "\x00\x00\x00\x00" {
		t.Errorf("P3.1: Seal(nil) = %x, want four zeros", got)
	}
}

func TestSealAndOpenOfSamples(t *testing.T) {
	for _, b := range append(samples(), noise(7, 1<<20)) {
		sealed := Seal(b)
		if !bytes.Equal(sealed, slowSeal(b)) {
			t.Errorf("P3.1: Seal(%.80x) = %.80x, want %.80x", b, sealed, slowSeal(b))
		}
		if got, ok := Open(slowSeal(b)); !ok || !bytes.Equal(got, b) {
			t.Errorf("P3.1: Open of the Seal of %.80x = %.80x, %v", b, got, ok)
		}
	}
}

func TestSealOfASeal(t *testing.T) {
	b := []byte("abc")
	for range 10 {
		sealed := Seal(b)
		if got, ok := Open(sealed); !ok || !bytes.Equal(got, b) {
			t.Errorf("P3.1: Open of the Seal of %x = %x, %v", b, got, ok)
		}
		b = sealed
	}
}

func TestOpenOfFewerThanFourBytes(t *testing.T) {
	refuse(t, "P3.1", nil)
	refuse(t, "P3.1", []byte{})
	for _, next := range []byte{0, 1, 'a', 0xff} {
		for n := 1; n <= 3; n++ {
			refuse(t, "P3.1", bytes.Repeat([]byte{next}, n))
		}
	}
	// What stands behind the slice is not a part of it.
	sealed := Seal(nil)
	for n := range 4 {
		refuse(t, "P3.1", sealed[:n])
	}
	sealed = Seal([]byte("abc"))
	for n := range len(sealed) {
		refuse(t, "P3.1", sealed[:n])
	}
}

func TestOpenOfNothingSealed(t *testing.T) {
	for _, b := range [][]byte{{0, 0, 0, 0}, Seal(nil), Seal([]byte{})} {
		if got, ok := Open(b); !ok || len(got) != 0 {
			t.Errorf("P3.1: Open(%x) = %x, %v, want nothing and true", b, got, ok)
		}
	}
}

func TestOpenOfWhatNoSealReturns(t *testing.T) {
	for _, s := range []string{
		"\x00\x00\x00\x01", "\x01\x00\x00\x00", "\xff\xff\xff\xff", "abcd",
		"\x00\x00\x00\x00\x00",
		// The most significant byte first; not inverted; without the ones in the beginning.
		"123456789\xcb\xf4\x39\x26", "123456789\xd9\xc6\x0b\x34", "123456789\x2d\xfd\x2d\x89",
		// Something before or behind what is sealed, or a part of it.
		"0123456789\x26\x39\xf4\xcb", "23456789\x26\x39\xf4\xcb", "123456789\x26\x39\xf4\xcb\x00",
		"123456789\x26\x39\xf4", "\x26\x39\xf4\xcb123456789", "\x26\x39\xf4\xcb",
	} {
		refuse(t, "P3.1", []byte(s))
	}
	for _, b := range samples() {
		want := slowSum(b)
		for _, n := range []uint32{bits.ReverseBytes32(want), ^want, want + 1, want - 1, bits.Reverse32(want)} {
			if n != want {
				refuse(t, "P3.1", append(slices.Clone(b), byte(n), byte(n>>8), byte(n>>16), byte(n>>24)))
			}
		}
	}
}

// TestOpenOfAllShortInputs asks of all inputs of 4 to 7 bytes of few kinds that Open tells those that a Seal returns.
func TestOpenOfAllShortInputs(t *testing.T) {
	kinds := []byte{0x00, 0x01, 0x8d, 0xef, 0x02, 0xd2, 0xff}
	inputs := [][]byte{nil}
	for n := 1; n <= 6; n++ {
		var longer [][]byte
		for _, b := range inputs {
			for _, next := range kinds {
				longer = append(longer, append(slices.Clone(b), next))
			}
		}
		inputs = longer
		for _, b := range inputs {
			want := n >= 4 && bytes.Equal(slowSeal(b[:max(n, 4)-4]), b)
			got, ok := Open(b)
			if ok != want || ok && !bytes.Equal(got, b[:n-4]) || !ok && len(got) != 0 {
				t.Fatalf("P3.1: Open(%x) = %x, %v, want %v", b, got, ok, want)
			}
		}
	}
}

// --- P3.2: changes of sealed slices

// sealedSamples are sealed slices of 4 to 40 bytes.
func sealedSamples() [][]byte {
	var all [][]byte
	for _, n := range []int{0, 1, 2, 3, 4, 5, 8, 13, 36} {
		all = append(all, Seal(make([]byte, n)), Seal(bytes.Repeat([]byte{0xff}, n)), Seal(noise(int64(n), n)))
	}
	return all
}

// changed is b with change XORed into its bytes from at on.
func changed(b []byte, at int, change ...byte) []byte {
	b = slices.Clone(b)
	for i, x := range change {
		b[at+i] ^= x
	}
	return b
}

func TestOpenOfOneByteChanged(t *testing.T) {
	for _, b := range sealedSamples() {
		for at := range b {
			for x := 1; x < 256; x++ {
				refuse(t, "P3.2", changed(b, at, byte(x)))
			}
		}
	}
}

func TestOpenOfTwoBytesChanged(t *testing.T) {
	for _, b := range [][]byte{Seal(nil), Seal([]byte("a")), Seal([]byte("abcdef"))} {
		for at := range len(b) - 1 {
			for x := 1; x < 1<<16; x++ {
				refuse(t, "P3.2", changed(b, at, byte(x), byte(x>>8)))
			}
		}
	}
}

func TestOpenOfThreeBytesChanged(t *testing.T) {
	some := []byte{0, 1, 2, 4, 8, 0x10, 0x20, 0x40, 0x80, 0xff, 0x83, 0xb8, 0xed}
	for _, b := range sealedSamples() {
		for at := range len(b) - 2 {
			for _, x := range some {
				for _, y := range some {
					for _, z := range some[1:] {
						refuse(t, "P3.2", changed(b, at, x, y, z))
					}
				}
			}
		}
	}
}

func TestOpenOfFourBytesChanged(t *testing.T) {
	random := rand.New(rand.NewSource(8))
	for _, b := range sealedSamples() {
		for at := range len(b) - 3 {
			for range 2000 {
				x := 1 + uint32(random.Int63n(1<<32-1))
				refuse(t, "P3.2", changed(b, at, byte(x), byte(x>>8), byte(x>>16), byte(x>>24)))
			}
			// The polynomial itself, at each of its 32 places or what is left of it there, both ways round.
			for n := range 32 {
				for _, x := range []uint32{0xEDB88320 << n, 0xEDB88320 >> n, 0x04C11DB7 << n, 0x04C11DB7 >> n} {
					if x != 0 {
						refuse(t, "P3.2", changed(b, at, byte(x), byte(x>>8), byte(x>>16), byte(x>>24)))
					}
				}
			}
		}
	}
}

// gap is the XOR of the checksum that b ends with and that of what stands before it: 0 exactly if b is sealed.
func gap(b []byte) uint32 {
	n := len(b) - 4
	return Sum(b[:n]) ^ (uint32(b[n]) | uint32(b[n+1])<<8 | uint32(b[n+2])<<16 | uint32(b[n+3])<<24)
}

// TestGapOfEveryChange asks it of all 2^32 changes of four consecutive bytes: the gap of a change is the XOR of those of
// its bits, so none has the gap 0 exactly if the gaps of the 32 bits are independent.
func TestGapOfEveryChange(t *testing.T) {
	for _, b := range append(sealedSamples(), Seal(noise(9, 300))) {
		for at := range len(b) - 3 {
			rows := make([]uint32, 0, 32)
			for n := range 32 {
				x := uint32(1) << n
				row := gap(changed(b, at, byte(x), byte(x>>8), byte(x>>16), byte(x>>24)))
				for _, other := range rows {
					row = min(row, row^other)
				}
				if row == 0 {
					t.Fatalf("P3.2: a change of the bytes %d to %d of %x is not noticed", at, at+3, b)
				}
				rows = append(rows, row)
				slices.Sort(rows)
				slices.Reverse(rows)
			}
		}
	}
}

func TestGapOfTheXORIsTheXORofTheGaps(t *testing.T) {
	random := rand.New(rand.NewSource(10))
	for _, b := range sealedSamples() {
		for range 200 {
			x, y := make([]byte, len(b)), make([]byte, len(b))
			random.Read(x)
			random.Read(y)
			both := changed(b, 0, changed(x, 0, y...)...)
			if gap(both) != gap(changed(b, 0, x...))^gap(changed(b, 0, y...)) {
				t.Fatalf("P3.2: the gaps of %x and %x", x, y)
			}
		}
	}
}

// --- P3.2: new memory, arguments, state

func TestSealIsNewMemory(t *testing.T) {
	for _, b := range samples() {
		part, all := roomy(b)
		before := slices.Clone(all)
		sealed := Seal(part)
		if !bytes.Equal(all, before) {
			t.Fatalf("P3.2: Seal changed its argument %.80x or its spare capacity", b)
		}
		if shared(sealed, all) {
			t.Fatalf("P3.2: Seal(%.80x) shares memory with its argument", b)
		}
		want := slices.Clone(sealed)
		clear(all)
		if !bytes.Equal(sealed, want) {
			t.Fatalf("P3.2: writing to the argument %.80x changed its Seal", b)
		}
		copy(all, before)
		clear(sealed[:cap(sealed)])
		if !bytes.Equal(all, before) {
			t.Fatalf("P3.2: writing to the Seal changed its argument %.80x", b)
		}
		if again := Seal(part); !bytes.Equal(again, want) {
			t.Fatalf("P3.2: writing to the Seal of %.80x changed a later one", b)
		}
	}
}

func TestOpenIsNewMemory(t *testing.T) {
	for _, b := range samples() {
		part, all := roomy(slowSeal(b))
		before := slices.Clone(all)
		opened, ok := Open(part)
		if !ok || !bytes.Equal(all, before) {
			t.Fatalf("P3.2: Open refused or changed the Seal of %.80x or its spare capacity", b)
		}
		if shared(opened, all) {
			t.Fatalf("P3.2: Open of the Seal of %.80x shares memory with its argument", b)
		}
		clear(all)
		if !bytes.Equal(opened, b) {
			t.Fatalf("P3.2: writing to the argument changed what Open returned for %.80x", b)
		}
		copy(all, before)
		clear(opened[:cap(opened)])
		if !bytes.Equal(all, before) {
			t.Fatalf("P3.2: writing to what Open returned for %.80x changed its argument", b)
		}
		if again, ok := Open(part); !ok || !bytes.Equal(again, b) {
			t.Fatalf("P3.2: writing to what Open returned for %.80x changed a later result", b)
		}
	}
}

func TestRefusedArgumentsAreNotChanged(t *testing.T) {
	for _, b := range samples() {
		part, all := roomy(append(slices.Clone(b), 1, 2, 3, 4))
		before := slices.Clone(all)
		if got, ok := Open(part); ok || len(got) != 0 || !bytes.Equal(all, before) {
			t.Fatalf("P3.2: Open(%.80x) = %.80x, %v, or changed its argument", part, got, ok)
		}
	}
}

func TestSumLeavesItsArguments(t *testing.T) {
	first, firstAll := roomy([]byte("1234"))
	second, secondAll := roomy([]byte("56789"))
	list := [][]byte{first, nil, second, []byte("behind the list")}
	if got := Sum(list[:3]...); got != 0xCBF43926 {
		t.Errorf("P3.1: Sum = %08X", got)
	}
	if string(firstAll) != "1234spare capacity.." || string(secondAll) != "56789spare capacity.." {
		t.Error("P3.2: Sum changed the bytes of its arguments or behind them")
	}
	if len(list[0]) != 4 || list[1] != nil || len(list[2]) != 5 || string(list[3]) != "behind the list" {
		t.Error("P3.2: Sum changed the list of its arguments")
	}
	first[0] = 'x'
	if got, want := Sum(first, second), crc32.ChecksumIEEE([]byte("x23456789")); got != want {
		t.Errorf("P3.2: Sum of a changed argument = %08X, want %08X", got, want)
	}
}

func TestResultsDependOnlyOnTheArguments(t *testing.T) {
	inputs := samples()
	var sums []uint32
	for _, b := range inputs {
		sums = append(sums, Sum(b))
		Open(b)
	}
	for i := len(inputs) - 1; i >= 0; i-- {
		if got := Sum(inputs[i]); got != sums[i] {
			t.Errorf("P3.2: Sum(%.80x) was %08X and is %08X", inputs[i], sums[i], got)
		}
		if got := Seal(inputs[i]); !bytes.Equal(got, slowSeal(inputs[i])) {
			t.Errorf("P3.2: a later Seal(%.80x) = %.80x", inputs[i], got)
		}
	}
}
