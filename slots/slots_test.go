package slots

import (
	"bytes"
	"encoding/binary"
	"fmt"
	"hash/crc32"
	"math"
	"math/rand"
	"slices"
	"testing"

	"pentimento/api"
	"pentimento/disk"
)

// --- bytes, disks and slots

// noise are n bytes, none of them zero, which hang on the seed.
func noise(seed, n int) []byte {
	b := make([]byte, n)
	for i := range b {
		b[i] = byte(1 + (seed*89+i*7+i/64*31)%255)
	}
	return b
}

// blank are the bytes of n sectors that nobody has written.
func blank(n int) []byte { return make([]byte, 64*n) }

// heading is the header of a checkpoint, by the chapter's words.
func heading(generation, stamp int, body []byte) []byte {
	b := []byte{'S'}
	b = binary.BigEndian.AppendUint64(b, uint64(generation))
	b = binary.BigEndian.AppendUint64(b, uint64(stamp))
	b = binary.BigEndian.AppendUint32(b, uint32(len(body)))
	b = binary.BigEndian.AppendUint32(b, crc32.ChecksumIEEE(body))
	return append(b, make([]byte, 39)...)
}

// slot are the bytes of a slot with a checkpoint and zeros behind it.
func slot(each, generation, stamp int, body []byte) []byte {
	b := append(heading(generation, stamp, body), body...)
	return append(b, make([]byte, 64*each-len(b))...)
}

// both are the bytes of two slots: those given, or zeros.
func both(each int, zero, one []byte) []byte {
	b := blank(2 * each)
	copy(b, zero)
	copy(b[64*each:], one)
	return b
}

// made is a new disk of n sectors.
func made(t *testing.T, n int) *disk.Disk {
	t.Helper()
	d, e := disk.New(n)
	if e != api.OK {
		t.Fatalf("disk.New(%d) = %d", n, e)
	}
	return d
}

// laid is a disk that has b, and no more sectors.
func laid(t *testing.T, b []byte) *disk.Disk {
	t.Helper()
	d := made(t, len(b)/64)
	lay(t, d, 0, b)
	return d
}

// lay makes b durable from sector at on.
func lay(t *testing.T, d *disk.Disk, at int, b []byte) {
	t.Helper()
	if e := d.Write(at, b); e != api.OK {
		t.Fatalf("disk.Write(%d, %d bytes) = %d", at, len(b), e)
	}
	if e := d.Sync(); e != api.OK {
		t.Fatalf("disk.Sync() = %d", e)
	}
}

// whole are the bytes of the disk, with what is pending.
func whole(t *testing.T, d *disk.Disk) []byte {
	t.Helper()
	b, e := d.Read(0, d.Size())
	if e != api.OK {
		t.Fatalf("disk.Read = %d", e)
	}
	return b
}

// saved is a checkpoint; generation 0 is none.
type saved struct {
	generation, stamp int
	body              []byte
}

// refuses asks that Open returns nothing and that error.
func refuses(t *testing.T, d *disk.Disk, from, each int, want api.Errno) {
	t.Helper()
	s, x, ok, e := Open(d, from, each)
	if s != nil || x.Stamp != 0 || len(x.Body) != 0 || ok || e != want {
		t.Errorf("P8.1: Open(%d, %d) = %v, %v, %v, %d, want nothing, %d", from, each, s != nil, x, ok, e, want)
	}
}

// holds opens slots, asks for that checkpoint, and for Generation and Room, and returns the slots.
func holds(t *testing.T, promise, what string, d *disk.Disk, from, each int, want saved) *Slots {
	t.Helper()
	s, x, ok, e := Open(d, from, each)
	if s == nil || e != api.OK {
		t.Fatalf("%s: %s: Open(%d, %d) = %v, %d, want OK", promise, what, from, each, s != nil, e)
	}
	if ok != (want.generation > 0) || x.Stamp != want.stamp || !bytes.Equal(x.Body, want.body) {
		t.Errorf("%s: %s: Open(%d, %d) = %d %.80q, %v, want %d %.80q", promise, what, from, each, x.Stamp, x.Body, ok, want.stamp, want.body)
	}
	stands(t, promise, what, s, want.generation, each)
	return s
}

// stands asks for Generation and Room.
func stands(t *testing.T, promise, what string, s *Slots, generation, each int) {
	t.Helper()
	room := min(64*(each-1), 1<<20)
	if s.Generation() != generation || s.Room() != room {
		t.Errorf("%s: %s: Generation() = %d, Room() = %d, want %d, %d", promise, what, s.Generation(), s.Room(), generation, room)
	}
}

// saves saves, and asks that it works.
func saves(t *testing.T, s *Slots, stamp int, body []byte) {
	t.Helper()
	before := s.Generation()
	if e := s.Save(api.Entry{Stamp: stamp, Body: body}); e != api.OK || s.Generation() != before+1 {
		t.Fatalf("P8.2: Save(%d, %d bytes) behind generation %d = %d, generation %d", stamp, len(body), before, e, s.Generation())
	}
}

// fails asks for an error of Save, and that Generation and Room stay.
func fails(t *testing.T, promise string, s *Slots, stamp int, body []byte, want api.Errno) {
	t.Helper()
	generation, room := s.Generation(), s.Room()
	if e := s.Save(api.Entry{Stamp: stamp, Body: body}); e != want {
		t.Errorf("%s: Save(%d, %d bytes) with room for %d = %d, want %d", promise, stamp, len(body), room, e, want)
	}
	if s.Generation() != generation || s.Room() != room {
		t.Errorf("%s: Save(%d, %d bytes) with an error changes Generation() to %d or Room() to %d", promise, stamp, len(body), s.Generation(), s.Room())
	}
}

// calls asks how many calls of the disk f makes: with that many the power is off behind it, with one more it is on.
func calls(t *testing.T, promise string, d *disk.Disk, want int, f func()) {
	t.Helper()
	d.Limit(want + 1)
	f()
	if _, e := d.Read(0, 1); e != api.OK {
		t.Errorf("%s: more than %d calls of the disk", promise, want)
	}
	if _, e := d.Read(0, 1); e != api.ErrOff {
		t.Errorf("%s: fewer than %d calls of the disk", promise, want)
	}
	d.Crash()
}

// chosen are the numbers below n whose bits are set.
func chosen(n, bits int) []int {
	var numbers []int
	for i := range n {
		if bits>>i&1 == 1 {
			numbers = append(numbers, i)
		}
	}
	return numbers
}

// lengths are those of bodies about the ends of sectors.
func lengths() []int { return []int{0, 1, 2, 62, 63, 64, 65, 126, 127, 128} }

// numbers are of all sizes.
func numbers() []int {
	return []int{math.MinInt, math.MinInt + 1, math.MinInt + 2, -api.MaxStamp, -1 << 32, -2, -1, 0, 1, 2, 3, 4, 5, 6, 7, 8, 9, 255, 256, 261, 1 << 32, 1<<32 + 5, api.MaxStamp - 1, api.MaxStamp, api.MaxStamp + 1, 1 << 61, 1<<61 + 1, 1 << 62, 1<<62 + 1, math.MaxInt - 1, math.MaxInt}
}

// isStamp tells whether n is a stamp.
func isStamp(n int) bool { return n >= 0 && n < 1<<60 }

func TestExample(t *testing.T) {
	d := made(t, 8)
	s := holds(t, "P8.1", "a new disk", d, 0, 4, saved{})
	saves(t, s, 5, []byte("a"))
	saves(t, s, 6, []byte("b"))
	stands(t, "P8.1", "the example", s, 2, 4)
	want := both(4, slot(4, 2, 6, []byte("b")), slot(4, 1, 5, []byte("a")))
	if got := whole(t, d); !bytes.Equal(got, want) {
		t.Errorf("P8.2: the disk has %q, want %q", got, want)
	}
	holds(t, "P8.3", "the example", d, 0, 4, saved{2, 6, []byte("b")})
	d.Crash()
	holds(t, "P8.3", "the example behind a crash", d, 0, 4, saved{2, 6, []byte("b")})
}

// --- P8.1: Open's errors, Room

func TestOpenOfNoDisk(t *testing.T) {
	for _, each := range append(numbers(), api.MaxDisk, api.MaxDisk+1) {
		for _, from := range []int{-1, 0, 5, math.MaxInt} {
			refuses(t, nil, from, each, api.ErrNil)
		}
	}
}

func TestOpenOfSlotsOfNoSize(t *testing.T) {
	for _, each := range append(numbers(), -api.MaxDisk, api.MaxDisk+1, api.MaxDisk+2, 2*api.MaxDisk) {
		if each >= 1 && each <= api.MaxDisk {
			continue
		}
		d := laid(t, both(1, slot(1, 2, 3, nil), nil))
		for _, from := range []int{-1, 0, 1, 2, math.MaxInt} {
			calls(t, "P8.1", d, 0, func() { refuses(t, d, from, each, api.ErrArg) })
		}
		// It is ErrArg also where the disk's error would be another one.
		d.Limit(0)
		refuses(t, d, 0, each, api.ErrArg)
	}
}

func TestOpenOfTheGreatestSlots(t *testing.T) {
	// No disk has two slots of MaxDisk sectors: the error is the disk's.
	d := made(t, api.MaxDisk)
	for _, each := range []int{api.MaxDisk/2 + 1, api.MaxDisk - 1, api.MaxDisk} {
		refuses(t, d, 0, each, api.ErrArg)
	}
	refuses(t, d, 1, api.MaxDisk/2, api.ErrArg)
	s := holds(t, "P8.1", "slots that fill the disk", d, 0, api.MaxDisk/2, saved{})
	long := noise(3, api.MaxBody)
	saves(t, s, 1, long)
	saves(t, s, 2, long[1:])
	holds(t, "P8.1", "slots that fill the disk", d, 0, api.MaxDisk/2, saved{2, 2, long[1:]})
}

func TestOpenOfRegions(t *testing.T) {
	const size = 7
	places := []int{math.MinInt, math.MinInt + 1, math.MinInt + size, -64, -6, 1 << 26, 1 << 57, 1 << 58, math.MaxInt - 1, math.MaxInt}
	for i := -2; i <= size+2; i++ {
		places = append(places, i)
	}
	for _, from := range places {
		for each := 1; each <= size; each++ {
			d := made(t, size)
			if from < 0 || from >= size || 2*each > size-from {
				calls(t, "P8.1", d, 0, func() { refuses(t, d, from, each, api.ErrArg) })
				// A region that is none is the disk's ErrArg also with the power off.
				d.Limit(0)
				refuses(t, d, from, each, api.ErrArg)
				continue
			}
			d.Limit(0)
			refuses(t, d, from, each, api.ErrOff)
			d.Crash()
			s := holds(t, "P8.1", "a region", d, from, each, saved{})
			saves(t, s, 8, nil)
			saves(t, s, 9, nil)
			want := blank(size)
			copy(want[64*from:], heading(2, 9, nil))
			copy(want[64*(from+each):], heading(1, 8, nil))
			if !bytes.Equal(whole(t, d), want) {
				t.Errorf("P8.1: the slots of %d sectors from %d on are elsewhere", each, from)
			}
			holds(t, "P8.1", "a region", d, from, each, saved{2, 9, nil})
		}
	}
}

func TestOpenWithThePowerOff(t *testing.T) {
	region := both(2, slot(2, 2, 6, []byte("b")), slot(2, 1, 5, []byte("a")))
	d := laid(t, region)
	d.Limit(0)
	for range 2 {
		refuses(t, d, 0, 2, api.ErrOff)
		refuses(t, d, 1, 1, api.ErrOff)
		refuses(t, d, 0, 3, api.ErrArg)
		refuses(t, d, 0, 0, api.ErrArg)
	}
	d.Crash()
	holds(t, "P8.1", "behind a crash", d, 0, 2, saved{2, 6, []byte("b")})
	if !bytes.Equal(whole(t, d), region) {
		t.Error("P8.1: Open changes the disk")
	}
}

func TestOpenIsOneRead(t *testing.T) {
	for _, zero := range [][]byte{nil, slot(3, 2, 6, noise(1, 128)), noise(2, 192)} {
		for _, one := range [][]byte{nil, slot(3, 1, 5, nil), slot(3, 3, 5, noise(3, 65))} {
			want, _ := reading(both(3, zero, one), 3)
			d := laid(t, both(3, zero, one))
			calls(t, "P8.1", d, 1, func() { holds(t, "P8.1", "one call", d, 0, 3, want) })
		}
	}
	// It neither writes nor synchronizes, and sees what is pending.
	d := laid(t, both(2, nil, slot(2, 1, 5, nil)))
	d.Write(0, slot(2, 2, 6, []byte("b")))
	holds(t, "P8.1", "pending writes", d, 0, 2, saved{2, 6, []byte("b")})
	if d.Waiting() != 2 {
		t.Errorf("P8.1: behind Open %d writes are pending, want 2", d.Waiting())
	}
	d.Crash()
	holds(t, "P8.1", "pending writes, lost", d, 0, 2, saved{1, 5, nil})
}

func TestRoom(t *testing.T) {
	for each, room := range map[int]int{
		1: 0, 2: 64, 3: 128, 4: 192, 100: 6336,
		16384: 1<<20 - 64, 16385: 1 << 20, 16386: 1 << 20, 16387: 1 << 20, 32768: 1 << 20,
	} {
		d := made(t, 2*each)
		s := holds(t, "P8.1", "a new disk", d, 0, each, saved{})
		if s.Room() != room {
			t.Errorf("P8.1: Room() of slots of %d sectors = %d, want %d", each, s.Room(), room)
		}
		fails(t, "P8.2", s, 1, make([]byte, room+1), api.ErrFull)
		body := noise(each, room)
		for stamp := range 3 {
			saves(t, s, stamp, body)
			stands(t, "P8.1", "a full slot", s, stamp+1, each)
			holds(t, "P8.1", "a full slot", d, 0, each, saved{stamp + 1, stamp, body})
		}
		fails(t, "P8.2", s, 1, make([]byte, room+1), api.ErrFull)
	}
}

// --- P8.1: the current checkpoint

// reading is the current checkpoint of a region, by the chapter's words; and whether there is one.
func reading(region []byte, each int) (saved, bool) {
	var found []saved
	for i := range 2 {
		b := region[64*each*i : 64*each*(i+1)]
		generation := binary.BigEndian.Uint64(b[1:])
		stamp := binary.BigEndian.Uint64(b[9:])
		octets := int(binary.BigEndian.Uint32(b[17:]))
		if b[0] != 'S' || len(bytes.TrimRight(b[:64], "\x00")) > 25 {
			continue
		}
		if generation < 1 || generation > 1<<63-1 || generation%2 != uint64(i) || stamp >= 1<<60 {
			continue
		}
		if octets > 64*each-64 || octets > 1<<20 {
			continue
		}
		if body := b[64 : 64+octets]; crc32.ChecksumIEEE(body) == binary.BigEndian.Uint32(b[21:]) {
			found = append(found, saved{int(generation), int(stamp), body})
		}
	}
	if len(found) == 0 {
		return saved{}, false
	}
	return slices.MaxFunc(found, func(a, b saved) int { return a.generation - b.generation }), true
}

// agrees asks that Open finds what the chapter's words find.
func agrees(t *testing.T, what string, region []byte) {
	t.Helper()
	each := len(region) / 128
	want, _ := reading(region, each)
	holds(t, "P8.1", what, laid(t, region), 0, each, want)
}

func TestOpenOfANewRegion(t *testing.T) {
	for _, each := range []int{1, 2, 3, 64, 1000, 32768} {
		d := made(t, api.MaxDisk)
		holds(t, "P8.1", "a new region", d, 0, each, saved{})
		holds(t, "P8.1", "a new region", d, api.MaxDisk-2*each, each, saved{})
	}
}

func TestOpenOfEachSlot(t *testing.T) {
	for _, octets := range lengths() {
		body, other := noise(1, octets), noise(2, (octets+70)%129)
		for _, c := range []struct{ zero, one, want int }{
			{0, 0, 0},
			{2, 0, 2}, {4, 0, 4}, {1 << 40, 0, 1 << 40},
			{0, 1, 1}, {0, 3, 3}, {0, 1<<40 + 1, 1<<40 + 1},
			{2, 1, 2}, {2, 3, 3}, {4, 3, 4}, {4, 5, 5}, {4, 1, 4}, {2, 9, 9},
			{256, 255, 256}, {256, 257, 257}, {1 << 32, 1, 1 << 32}, {2, 1<<32 + 1, 1<<32 + 1},
			{math.MaxInt - 1, 0, math.MaxInt - 1}, {0, math.MaxInt, math.MaxInt},
			{math.MaxInt - 1, math.MaxInt, math.MaxInt}, {math.MaxInt - 1, math.MaxInt - 2, math.MaxInt - 1}, {2, math.MaxInt, math.MaxInt},
		} {
			region := blank(6)
			want := saved{generation: c.want}
			if c.zero > 0 {
				copy(region, slot(3, c.zero, 11, body))
			}
			if c.one > 0 {
				copy(region[192:], slot(3, c.one, 22, other))
			}
			if c.want > 0 && c.want == c.zero {
				want = saved{c.want, 11, body}
			} else if c.want > 0 {
				want = saved{c.want, 22, other}
			}
			holds(t, "P8.1", fmt.Sprintf("generations %d and %d with %d bytes", c.zero, c.one, octets), laid(t, region), 0, 3, want)
		}
	}
}

// TestOpenTakesTheGreaterGeneration asks that neither the stamp nor the body decides.
func TestOpenTakesTheGreaterGeneration(t *testing.T) {
	for _, x := range []int{0, 7, 300, api.MaxStamp} {
		for _, y := range []int{0, 7, 300, api.MaxStamp} {
			for _, long := range []int{0, 1, 64} {
				region := both(2, slot(2, 8, x, noise(1, long)), slot(2, 7, y, noise(2, 64-long)))
				holds(t, "P8.1", "the greater generation in slot 0", laid(t, region), 0, 2, saved{8, x, noise(1, long)})
				region = both(2, slot(2, 8, x, noise(1, long)), slot(2, 9, y, noise(2, 64-long)))
				holds(t, "P8.1", "the greater generation in slot 1", laid(t, region), 0, 2, saved{9, y, noise(2, 64-long)})
			}
		}
	}
}

// counts asks that a checkpoint in each slot, changed by f, is valid or not: alone, and beside another one with a
// smaller generation.
func counts(t *testing.T, what string, generation, octets int, valid bool, f func(b []byte) saved) {
	t.Helper()
	const each = 4
	for i := range 2 {
		for _, beside := range []bool{false, true} {
			b := slot(each, generation+i, 9, noise(generation, octets))
			want := f(b)
			other := saved{generation + i - 1, 8, noise(8, 65)}
			region := blank(2 * each)
			copy(region[64*each*i:], b)
			if beside {
				copy(region[64*each*(1-i):], slot(each, other.generation, other.stamp, other.body))
			}
			if !valid && beside {
				want = other
			} else if !valid {
				want = saved{}
			}
			holds(t, "P8.1", fmt.Sprintf("%s in slot %d with %d bytes, beside another: %v", what, i, octets, beside), laid(t, region), 0, each, want)
		}
	}
}

// changed writes to a slot's header.
func changed(at int, with ...byte) func(b []byte) saved {
	return func(b []byte) saved {
		copy(b[at:], with)
		return saved{}
	}
}

func TestOpenOfBrokenHeaders(t *testing.T) {
	for _, octets := range append(lengths(), 192) {
		for _, first := range []byte{0, 1, 's', 'R', 'T', 'S' ^ 128, 255} {
			counts(t, fmt.Sprint("the first byte ", first), 6, octets, false, changed(0, first))
		}
		for at := 25; at < 64; at++ {
			for _, b := range []byte{1, 128, 255} {
				counts(t, fmt.Sprint("byte ", at, " of the header"), 6, octets, false, changed(at, b))
			}
		}
		for bit := range 32 {
			counts(t, fmt.Sprint("another bit ", bit, " of the checksum"), 6, octets, false, func(b []byte) saved {
				b[24-bit/8] ^= 1 << (bit % 8)
				return saved{}
			})
		}
		if octets > 0 {
			sum := binary.LittleEndian.AppendUint32(nil, crc32.ChecksumIEEE(noise(6, octets)))
			counts(t, "the checksum, least significant first", 6, octets, false, changed(21, sum...))
		}
	}
}

func TestOpenOfGenerations(t *testing.T) {
	for _, octets := range lengths() {
		for _, generation := range append(numbers(), 10, 11, math.MaxInt-2) {
			body := noise(1, octets)
			for i := range 2 {
				region := blank(6)
				copy(region[192*i:], slot(3, generation, 9, body))
				want := saved{}
				if generation >= 1 && generation%2 == i {
					want = saved{generation, 9, body}
				}
				holds(t, "P8.1", fmt.Sprint("the generation ", generation, " in slot ", i), laid(t, region), 0, 3, want)
				// Beside a checkpoint with generation 4 or 5.
				copy(region[192*(1-i):], slot(3, 5-i, 3, []byte("beside")))
				if want.generation < 5-i {
					want = saved{5 - i, 3, []byte("beside")}
				}
				holds(t, "P8.1", fmt.Sprint("the generation ", generation, " in slot ", i, " beside another"), laid(t, region), 0, 3, want)
			}
		}
	}
	// A whole region whose checkpoints are each in the other's slot.
	region := both(2, slot(2, 1, 5, nil), slot(2, 2, 6, nil))
	holds(t, "P8.1", "checkpoints in each other's slots", laid(t, region), 0, 2, saved{})
	// A copy of the current checkpoint in the other slot.
	region = both(2, slot(2, 4, 5, []byte("a")), slot(2, 4, 5, []byte("a")))
	holds(t, "P8.1", "the same in both slots", laid(t, region), 0, 2, saved{4, 5, []byte("a")})
}

func TestOpenOfStamps(t *testing.T) {
	for _, octets := range lengths() {
		for _, stamp := range numbers() {
			counts(t, fmt.Sprint("the stamp ", stamp), 6, octets, isStamp(stamp), func(b []byte) saved {
				binary.BigEndian.PutUint64(b[9:], uint64(stamp))
				return saved{int(binary.BigEndian.Uint64(b[1:])), stamp, noise(6, octets)}
			})
		}
	}
}

func TestOpenOfLengths(t *testing.T) {
	// In a slot of 4 sectors a body has up to 192 bytes.
	for octets := range 193 {
		counts(t, "a length that fits", 6, octets, true, func(b []byte) saved {
			return saved{int(binary.BigEndian.Uint64(b[1:])), 9, noise(6, octets)}
		})
	}
	for _, octets := range []uint32{193, 194, 255, 256, 320, 448, 449, 1 << 12, 1<<20 - 1, 1 << 20, 1<<20 + 1, 1<<31 - 1, 1 << 31, 1<<32 - 64, 1<<32 - 1} {
		counts(t, fmt.Sprint("the length ", octets), 6, 192, false, func(b []byte) saved {
			binary.BigEndian.PutUint32(b[17:], octets)
			return saved{}
		})
	}
}

// TestOpenOfLengthsThatReachBeyond lays bodies that reach into the other slot and behind the region, with their
// checksums.
func TestOpenOfLengthsThatReachBeyond(t *testing.T) {
	for each := 1; each <= 4; each++ {
		for _, more := range []int{0, 1, 2, 63, 64, 65, 128} {
			body := noise(5, 64*(each-1)+more)
			for i := range 2 {
				b := append(blank(each*i), heading(2+i, 9, body)...)
				b = append(b, body...)
				b = append(b, make([]byte, 64*(2*each+4)-len(b))...)
				want := saved{}
				if more == 0 {
					want = saved{2 + i, 9, body}
				}
				holds(t, "P8.1", fmt.Sprint("a body that reaches ", more, " bytes beyond slot ", i), laid(t, b), 0, each, want)
			}
		}
	}
}

func TestOpenOfBodiesThatAreTooLong(t *testing.T) {
	const each = 16390
	long := noise(3, 64*(each-1))
	for _, octets := range []int{1<<20 - 1, 1 << 20, 1<<20 + 1, 1<<20 + 64, 64 * (each - 1)} {
		for i := range 2 {
			want := saved{}
			if octets <= 1<<20 {
				want = saved{6 + i, 9, long[:octets]}
			}
			d := made(t, 2*each)
			lay(t, d, each*i, slot(each, 6+i, 9, long[:octets]))
			holds(t, "P8.1", fmt.Sprint(octets, " bytes in slot ", i), d, 0, each, want)
		}
	}
}

func TestOpenOfBodies(t *testing.T) {
	for _, octets := range lengths() {
		keep := func(b []byte) saved {
			return saved{int(binary.BigEndian.Uint64(b[1:])), 9, noise(6, octets)}
		}
		counts(t, "as it was written", 6, octets, true, keep)
		// What stands behind the body does not matter.
		counts(t, "noise behind the body", 6, octets, true, func(b []byte) saved {
			copy(b[64+octets:], noise(77, 192))
			return keep(b)
		})
		for at := 64 + octets; at < 256; at++ {
			counts(t, "a byte behind the body", 6, octets, true, func(b []byte) saved {
				b[at] = 'S'
				return keep(b)
			})
		}
		for at := 64; at < 64+octets; at++ {
			for _, bit := range []byte{1, 128} {
				counts(t, "a byte of the body", 6, octets, false, func(b []byte) saved {
					b[at] ^= bit
					return saved{}
				})
			}
		}
	}
	// Bodies that look like headers, and zeros.
	for _, body := range [][]byte{heading(9, 9, nil), heading(8, 9, nil), make([]byte, 64), bytes.Repeat([]byte{'S'}, 64)} {
		region := both(2, slot(2, 2, 6, body), slot(2, 1, 5, body))
		holds(t, "P8.1", "a body like a header", laid(t, region), 0, 2, saved{2, 6, body})
		for from := range 3 {
			d := laid(t, region)
			want, _ := reading(region[64*from:64*from+128], 1)
			holds(t, "P8.1", "a body like a header, opened in between", d, from, 1, want)
		}
	}
	// Sectors of a body in another order, or of another body.
	b := slot(3, 2, 6, noise(1, 128))
	swapped := slices.Concat(b[:64], b[128:], b[64:128])
	holds(t, "P8.1", "sectors in another order", laid(t, both(3, swapped, slot(3, 1, 5, nil))), 0, 3, saved{1, 5, nil})
	mixed := slices.Concat(b[:128], slot(3, 4, 6, noise(2, 128))[128:])
	holds(t, "P8.1", "a sector of another body", laid(t, both(3, mixed, slot(3, 1, 5, nil))), 0, 3, saved{1, 5, nil})
}

func TestOpenOfEveryByteChanged(t *testing.T) {
	for _, region := range [][]byte{
		both(2, slot(2, 258, 3, noise(1, 40)), slot(2, 257, 300, noise(2, 64))),
		both(2, slot(2, 2, 1, nil), slot(2, 3, 2, []byte("a"))),
		both(1, slot(1, 2, 1, nil), slot(1, 1, 2, nil)),
	} {
		for at := range region {
			before := region[at]
			for change := range 256 {
				if at%64 > 26 && change > 2 {
					break
				}
				region[at] = byte(change)
				agrees(t, fmt.Sprintf("byte %d changed to %d", at, change), region)
			}
			region[at] = before
		}
	}
}

func TestOpenOfRandomRegions(t *testing.T) {
	random := rand.New(rand.NewSource(1))
	for i := range 30000 {
		each := 1 + random.Intn(4)
		region := blank(2 * each)
		for n := range 2 {
			generation := 2*random.Intn(4) + n
			body := noise(random.Intn(99), random.Intn(64*each-63))
			b := slot(each, generation, random.Intn(300), body)
			switch random.Intn(20) {
			case 0:
				b = noise(i, len(b))
			case 1:
				b[random.Intn(len(b))] ^= 1 << random.Intn(8)
			case 2:
				copy(b[64+len(body):], noise(i, 200))
			case 3:
				clear(b[64*random.Intn(each):][:64])
			case 4:
				b[17+random.Intn(4)] = byte(random.Intn(4))
			case 5:
				b = slot(each, generation+1, 5, body)
			case 6:
				b = slot(each, -generation, 5, body)
			case 7:
				b = slot(each, generation, random.Int(), body)
			}
			copy(region[64*each*n:], b)
		}
		agrees(t, fmt.Sprint("random region ", i), region)
	}
}

// --- P8.2: Save

func TestSaveOfStamps(t *testing.T) {
	d := made(t, 4)
	s := holds(t, "P8.2", "a new disk", d, 0, 2, saved{})
	for range 2 {
		for _, stamp := range numbers() {
			if !isStamp(stamp) {
				for _, octets := range []int{0, 1, 64, 65} {
					calls(t, "P8.2", d, 0, func() { fails(t, "P8.2", s, stamp, noise(1, octets), api.ErrArg) })
				}
				continue
			}
			saves(t, s, stamp, []byte("a"))
			holds(t, "P8.2", fmt.Sprint("the stamp ", stamp), d, 0, 2, saved{s.Generation(), stamp, []byte("a")})
		}
	}
}

// TestSaveOfAnyOrderOfStamps saves stamps that are equal to the last one's and below it.
func TestSaveOfAnyOrderOfStamps(t *testing.T) {
	d := made(t, 4)
	s := holds(t, "P8.2", "a new disk", d, 0, 2, saved{})
	for i, stamp := range []int{5, 5, 5, 4, 0, 0, api.MaxStamp, api.MaxStamp, api.MaxStamp - 1, 0, 1, 1 << 40, 6} {
		saves(t, s, stamp, noise(i, 10))
		stands(t, "P8.1", "stamps in any order", s, i+1, 2)
		holds(t, "P8.2", "stamps in any order", d, 0, 2, saved{i + 1, stamp, noise(i, 10)})
	}
}

func TestOrderOfErrors(t *testing.T) {
	d := made(t, 4)
	s := holds(t, "P8.2", "a new disk", d, 0, 2, saved{})
	refused := func() {
		t.Helper()
		for _, octets := range []int{0, 64, 65, 100, api.MaxBody + 1} {
			fails(t, "P8.2", s, -1, make([]byte, octets), api.ErrArg)
			fails(t, "P8.2", s, api.MaxStamp+1, make([]byte, octets), api.ErrArg)
		}
		fails(t, "P8.2", s, 1, make([]byte, 65), api.ErrFull)
		fails(t, "P8.2", s, api.MaxStamp, make([]byte, api.MaxBody+1), api.ErrFull)
	}
	refused()
	// They also come ahead of the disk's error, and none of them is one.
	d.Limit(0)
	refused()
	d.Crash()
	refused()
	saves(t, s, 4, []byte("a"))
	d.Limit(0)
	fails(t, "P8.2", s, 5, []byte("b"), api.ErrOff)
	for range 2 {
		for _, stamp := range numbers() {
			for _, octets := range []int{0, 1, 64, 65, api.MaxBody + 1} {
				fails(t, "P8.2", s, stamp, make([]byte, octets), api.ErrOff)
			}
		}
		// A crash turns the power on, but not the slots.
		d.Crash()
	}
	s = holds(t, "P8.2", "reopened", d, 0, 2, saved{1, 4, []byte("a")})
	saves(t, s, 5, []byte("b"))
}

func TestOtherErrorsAreNoErrorsOfTheDisk(t *testing.T) {
	d := made(t, 4)
	s := holds(t, "P8.2", "a new disk", d, 0, 2, saved{})
	for i := range 4 {
		before := whole(t, d)
		calls(t, "P8.2", d, 0, func() {
			fails(t, "P8.2", s, -1, nil, api.ErrArg)
			fails(t, "P8.2", s, 1, make([]byte, 65), api.ErrFull)
		})
		if !bytes.Equal(whole(t, d), before) {
			t.Error("P8.2: a Save with an error changes the disk")
		}
		saves(t, s, i, noise(i, 64))
		holds(t, "P8.2", "behind errors", d, 0, 2, saved{i + 1, i, noise(i, 64)})
	}
}

func TestCallsOfSave(t *testing.T) {
	for _, octets := range append(lengths(), 192) {
		d := made(t, 10)
		s := holds(t, "P8.2", "a new disk", d, 1, 4, saved{})
		for i := range 4 {
			want := 4
			if octets == 0 {
				want = 2
			}
			calls(t, "P8.2", d, want, func() { saves(t, s, i, noise(i, octets)) })
			if d.Waiting() != 0 {
				t.Errorf("P8.2: behind Save %d writes are pending", d.Waiting())
			}
			holds(t, "P8.2", "saved", d, 1, 4, saved{i + 1, i, noise(i, octets)})
		}
	}
}

// TestWhereSaveWrites lays noise first, so that each byte that is written shows.
func TestWhereSaveWrites(t *testing.T) {
	const from, each = 3, 4
	for _, octets := range append(lengths(), 191, 192) {
		want := noise(9, 64*14)
		d := laid(t, want)
		s := holds(t, "P8.2", "noise", d, from, each, saved{})
		for generation := 1; generation <= 5; generation++ {
			body := noise(generation, octets)
			saves(t, s, 100+generation, body)
			at := 64 * (from + generation%2*each)
			sectors := 1 + (octets+63)/64
			clear(want[at : at+64*sectors])
			copy(want[at:], append(heading(generation, 100+generation, body), body...))
			if got := whole(t, d); !bytes.Equal(got, want) {
				t.Errorf("P8.2: Save of generation %d with %d bytes: the disk has %q, want %q", generation, octets, got, want)
			}
			d.Crash()
			if got := whole(t, d); !bytes.Equal(got, want) {
				t.Errorf("P8.2: Save of generation %d with %d bytes: a crash takes something back", generation, octets)
			}
		}
	}
}

// TestSaveGoesOnWithTheGeneration opens slots with checkpoints, and saves.
func TestSaveGoesOnWithTheGeneration(t *testing.T) {
	for _, generation := range []int{1, 2, 3, 4, 255, 256, 1<<32 - 1, 1 << 40} {
		for _, before := range []int{0, 1, 3} {
			region := blank(4)
			copy(region[128*(generation%2):], slot(2, generation, 9, []byte("old")))
			if older := generation - before; before > 0 && older > 0 {
				copy(region[128*(older%2):], slot(2, older, 7, []byte("older")))
			}
			d := laid(t, region)
			s := holds(t, "P8.2", "laid", d, 0, 2, saved{generation, 9, []byte("old")})
			for i := 1; i <= 3; i++ {
				at := 128 * ((generation + i) % 2)
				saves(t, s, 10, noise(i, 33))
				copy(region[at:], slot(2, generation+i, 10, noise(i, 33)))
				if !bytes.Equal(whole(t, d), region) {
					t.Errorf("P8.2: generation %d is not where it belongs", generation+i)
				}
				s = holds(t, "P8.2", "saved", d, 0, 2, saved{generation + i, 10, noise(i, 33)})
			}
		}
	}
}

// TestSaveBehindTheGreatestGeneration asks only that it ends and writes into the slots.
func TestSaveBehindTheGreatestGeneration(t *testing.T) {
	region := slices.Concat(noise(1, 256), both(2, nil, slot(2, math.MaxInt, 9, nil)), noise(2, 256))
	d := laid(t, region)
	s := holds(t, "P8.1", "the greatest generation", d, 4, 2, saved{math.MaxInt, 9, nil})
	for i := range 3 {
		s.Save(api.Entry{Stamp: i, Body: []byte("a")})
	}
	got := whole(t, d)
	if !bytes.Equal(got[:256], region[:256]) || !bytes.Equal(got[512:], region[512:]) {
		t.Error("P8.2: Save writes beside the slots")
	}
}

// stage is what a slot has when the power goes off during a Save: the bytes that are durable, and those that are pending
// over them, from sector at of the slot on.
type stage struct {
	durable []byte
	at      int
	pending []byte
}

// stages are those of a slot that had old, when the power goes off behind 0, 1, 2, .. calls.
func stages(old, head, body []byte) []stage {
	padded := append(slices.Clone(body), make([]byte, -len(body)&63)...)
	with := slices.Clone(old)
	copy(with[64:], padded)
	all := []stage{{old, 0, nil}}
	if len(body) > 0 {
		all = append(all, stage{old, 1, padded}, stage{with, 0, nil})
	}
	return append(all, stage{with, 0, head})
}

func TestSaveWithThePowerGoingOff(t *testing.T) {
	const each = 4
	for _, octets := range append(lengths(), 192) {
		for i := range 2 {
			older, current, next := saved{1 + i, 4, noise(1, 70)}, saved{2 + i, 5, noise(2, 80)}, saved{3 + i, 6, noise(3, octets)}
			region := blank(2 * each)
			for _, x := range []saved{older, current} {
				copy(region[64*each*(x.generation%2):], slot(each, x.generation, x.stamp, x.body))
			}
			target := 64 * each * (next.generation % 2)
			head := heading(next.generation, next.stamp, next.body)
			for limit, now := range stages(region[target:target+64*each], head, next.body) {
				for bits := range 1 << (len(now.pending) / 64) {
					what := fmt.Sprintf("%d bytes, %d calls, kept %b", octets, limit, bits)
					d := laid(t, region)
					s := holds(t, "P8.2", what, d, 0, each, current)
					d.Limit(limit)
					fails(t, "P8.2", s, next.stamp, next.body, api.ErrOff)
					if d.Waiting() != len(now.pending)/64 {
						t.Errorf("P8.2: %s: %d writes are pending, want %d", what, d.Waiting(), len(now.pending)/64)
					}
					want := slices.Clone(region)
					copy(want[target:], now.durable)
					for _, n := range chosen(d.Waiting(), bits) {
						copy(want[target+64*(now.at+n):], now.pending[64*n:64*n+64])
					}
					d.Crash(chosen(d.Waiting(), bits)...)
					if !bytes.Equal(whole(t, d), want) {
						t.Errorf("P8.2: %s: the disk has other bytes", what)
					}
					for range 2 {
						fails(t, "P8.2", s, 7, nil, api.ErrOff)
						fails(t, "P8.2", s, -1, make([]byte, 64*each), api.ErrOff)
					}
					stands(t, "P8.1", what, s, current.generation, each)
					if !bytes.Equal(whole(t, d), want) {
						t.Errorf("P8.2: %s: a Save behind an error of the disk changes it", what)
					}
					if now.at == 0 && bits == 1 {
						holds(t, "P8.3", what, d, 0, each, next)
					} else {
						holds(t, "P8.3", what, d, 0, each, current)
					}
				}
			}
		}
	}
}

func TestErrorOfALaterSave(t *testing.T) {
	d := made(t, 4)
	s := holds(t, "P8.2", "a new disk", d, 0, 2, saved{})
	d.Limit(7)
	saves(t, s, 5, []byte("a"))
	fails(t, "P8.2", s, 6, []byte("b"), api.ErrOff)
	stands(t, "P8.1", "behind an error", s, 1, 2)
	d.Crash(0)
	// The checkpoint is there, but these slots are off: they must be opened again.
	fails(t, "P8.2", s, 6, []byte("b"), api.ErrOff)
	fails(t, "P8.2", s, 6, nil, api.ErrOff)
	stands(t, "P8.1", "behind an error", s, 1, 2)
	s = holds(t, "P8.3", "reopened", d, 0, 2, saved{2, 6, []byte("b")})
	saves(t, s, 7, []byte("c"))
	holds(t, "P8.3", "reopened", d, 0, 2, saved{3, 7, []byte("c")})
}

func TestSlotsSurviveACrashBetweenSaves(t *testing.T) {
	// A crash between two calls is no error of the disk: the slots go on.
	d := made(t, 4)
	s := holds(t, "P8.2", "a new disk", d, 0, 2, saved{})
	for i := range 5 {
		saves(t, s, i, noise(i, 60))
		d.Limit(0)
		d.Crash()
		stands(t, "P8.1", "behind a crash", s, i+1, 2)
		holds(t, "P8.3", "behind a crash", d, 0, 2, saved{i + 1, i, noise(i, 60)})
	}
}

// --- P8.3: crashes

// script are the numbers of bytes that are saved, one after the other.
type script []int

// run does a script until a Save fails. It returns the checkpoint that was saved last with OK, last if none was, and the
// one whose Save failed, nil if none did.
func (c script) run(s *Slots, last saved) (saved, *saved) {
	for i, octets := range c {
		next := saved{last.generation + 1, 10*last.generation + i, noise(last.generation+3, octets)}
		if s.Save(api.Entry{Stamp: next.stamp, Body: next.body}) != api.OK {
			return last, &next
		}
		last = next
	}
	return last, nil
}

// calls is how many calls of the disk a script makes.
func (c script) calls() int {
	n := 0
	for _, octets := range c {
		n += 2
		if octets > 0 {
			n += 2
		}
	}
	return n
}

// survives lets the disk crash with those pending writes preserved, asks what the slots from sector 1 on have, and
// returns that. A Save that failed counts exactly if its header was pending and is preserved.
func survives(t *testing.T, what string, d *disk.Disk, each int, last saved, failed *saved, bits int) saved {
	t.Helper()
	d.Crash(chosen(d.Waiting(), bits)...)
	if failed != nil {
		b := whole(t, d)[64*(1+failed.generation%2*each):]
		if bytes.HasPrefix(b, append(heading(failed.generation, failed.stamp, failed.body), failed.body...)) {
			last = *failed
		}
	}
	holds(t, "P8.3", what, d, 1, each, last)
	// A crash during Open changes nothing.
	before := whole(t, d)
	d.Limit(0)
	refuses(t, d, 1, each, api.ErrOff)
	d.Crash(0, 1, 2)
	if !bytes.Equal(whole(t, d), before) {
		t.Errorf("P8.3: %s: Open changes the disk", what)
	}
	holds(t, "P8.3", what+", opened twice", d, 1, each, last)
	return last
}

func TestCrashes(t *testing.T) {
	const each = 4
	for _, c := range []script{{0}, {1}, {64}, {65}, {192}, {0, 0, 0}, {1, 0, 128}, {192, 64, 1, 0}, {0, 190, 0, 127}, {128, 128, 128, 128}} {
		for _, before := range [][]byte{
			blank(2 * each), noise(9, 128*each), bytes.Repeat([]byte{'S'}, 128*each),
			both(each, slot(each, 4, 3, noise(1, 130)), slot(each, 3, 2, noise(2, 140))),
			both(each, slot(each, 4, 3, noise(1, 130)), slot(each, 5, 2, noise(2, 140))),
			both(each, nil, slot(each, 7, 2, nil)), both(each, slot(each, 8, 2, nil), noise(1, 256)),
		} {
			first, _ := reading(before, each)
			for limit := range c.calls() + 1 {
				for bits := 0; ; bits++ {
					d := made(t, 2*each+2)
					lay(t, d, 1, before)
					s := holds(t, "P8.3", "the beginning", d, 1, each, first)
					d.Limit(limit)
					last, failed := c.run(s, first)
					if (failed != nil) != (limit < c.calls()) {
						t.Fatalf("P8.3: %v with %d calls: has a Save failed? %v", c, limit, failed != nil)
					}
					if bits == 1<<d.Waiting() {
						break
					}
					last = survives(t, fmt.Sprintf("%v with %d calls, kept %b", c, limit, bits), d, each, last, failed, bits)
					s = holds(t, "P8.3", "one more", d, 1, each, last)
					saves(t, s, 77, noise(77, 70))
					d.Crash()
					holds(t, "P8.3", "one more", d, 1, each, saved{last.generation + 1, 77, noise(77, 70)})
				}
			}
		}
	}
}

// TestCrashesInARow lets each Save of three lives end behind each of its calls, with every subset of what is pending,
// in all combinations.
func TestCrashesInARow(t *testing.T) {
	const each, lives = 3, 3
	saving := script{65, 64}
	var live func(what string, region []byte, last saved, left int)
	live = func(what string, region []byte, last saved, left int) {
		for limit := range saving.calls() {
			for bits := 0; ; bits++ {
				d := laid(t, region)
				s := holds(t, "P8.3", what, d, 1, each, last)
				d.Limit(limit)
				now, failed := saving.run(s, last)
				if bits == 1<<d.Waiting() {
					break
				}
				here := fmt.Sprintf("%s, %d calls, kept %b", what, limit, bits)
				now = survives(t, here, d, each, now, failed, bits)
				if left > 1 {
					live(here, whole(t, d), now, left-1)
				}
			}
		}
	}
	live("lives", blank(2*each+2), saved{}, lives)
}

// TestRandomLives lets slots live, crash and be opened again, many times on one disk.
func TestRandomLives(t *testing.T) {
	random := rand.New(rand.NewSource(1))
	for range 300 {
		each := 1 + random.Intn(5)
		d := made(t, 2*each+2)
		last := saved{}
		for life := range 30 {
			s := holds(t, "P8.3", fmt.Sprint("life ", life), d, 1, each, last)
			if random.Intn(3) > 0 {
				d.Limit(random.Intn(20))
			}
			var next saved
			failed := false
			for range random.Intn(6) {
				next = saved{last.generation + 1, random.Intn(99), noise(random.Intn(99), random.Intn(s.Room()+1))}
				if failed = s.Save(api.Entry{Stamp: next.stamp, Body: next.body}) != api.OK; failed {
					break
				}
				last = next
			}
			d.Crash(random.Perm(6)[:random.Intn(6)]...)
			if now, _ := reading(whole(t, d)[64:64*(2*each+1)], each); failed && now.generation == next.generation {
				last = next
			}
			holds(t, "P8.3", fmt.Sprint("behind life ", life), d, 1, each, last)
			b := whole(t, d)
			if !bytes.Equal(b[:64], blank(1)) || !bytes.Equal(b[len(b)-64:], blank(1)) {
				t.Fatal("P8.3: the slots write beside their region")
			}
		}
	}
}

func TestSlotsBesideOneAnother(t *testing.T) {
	d := made(t, 10)
	one := holds(t, "P8.2", "a new disk", d, 0, 2, saved{})
	two := holds(t, "P8.2", "a new disk", d, 4, 3, saved{})
	saves(t, one, 5, []byte("a"))
	saves(t, two, 50, noise(1, 128))
	saves(t, one, 6, []byte("b"))
	stands(t, "P8.1", "one", one, 2, 2)
	stands(t, "P8.1", "two", two, 1, 3)
	d.Limit(1)
	fails(t, "P8.2", two, 51, []byte("c"), api.ErrOff)
	d.Crash()
	// Only those whose Save failed are off.
	saves(t, one, 7, noise(3, 64))
	fails(t, "P8.2", two, 52, nil, api.ErrOff)
	holds(t, "P8.3", "one", d, 0, 2, saved{3, 7, noise(3, 64)})
	holds(t, "P8.3", "two", d, 4, 3, saved{1, 50, noise(1, 128)})
}

// --- P8.3: memory

func TestSaveNeitherChangesNorKeepsItsArgument(t *testing.T) {
	for _, octets := range lengths() {
		for _, limit := range []int{-1, 1, 2, 3} {
			d := made(t, 8)
			s := holds(t, "P8.3", "a new disk", d, 0, 4, saved{})
			all := append(noise(1, octets), bytes.Repeat([]byte("spare"), 60)...)
			before := slices.Clone(all)
			x := api.Entry{Stamp: 7, Body: all[:octets]}
			d.Limit(limit)
			e := s.Save(x)
			if !bytes.Equal(all, before) || x.Stamp != 7 || len(x.Body) != octets {
				t.Fatalf("P8.3: Save changed its argument of %d bytes or its spare capacity", octets)
			}
			for i := range all {
				all[i] = '#'
			}
			first := d.Waiting() > 0 && (octets == 0 || limit == 3)
			d.Crash(chosen(d.Waiting(), -1)...)
			if e == api.OK || first {
				holds(t, "P8.3", "an argument, changed later", d, 0, 4, saved{1, 7, noise(1, octets)})
			} else if octets > 0 && !bytes.Equal(whole(t, d)[5*64:][:octets], noise(1, octets)) {
				t.Errorf("P8.3: what was pending of %d bytes changes with the argument", octets)
			}
			if e != api.OK {
				continue
			}
			saves(t, s, 8, all[:octets])
			clear(all)
			holds(t, "P8.3", "an argument, changed later", d, 0, 4, saved{2, 8, bytes.Repeat([]byte("#"), octets)})
		}
	}
}

func TestOneBufferForAllSaves(t *testing.T) {
	d := made(t, 6)
	s := holds(t, "P8.3", "a new disk", d, 0, 3, saved{})
	buffer := make([]byte, 70)
	for i := range 5 {
		copy(buffer, noise(i, 70))
		saves(t, s, i, buffer)
		clear(buffer)
		holds(t, "P8.3", "one buffer", d, 0, 3, saved{i + 1, i, noise(i, 70)})
	}
	want := both(3, slot(3, 4, 3, noise(3, 70)), slot(3, 5, 4, noise(4, 70)))
	if !bytes.Equal(whole(t, d), want) {
		t.Error("P8.3: one buffer: the disk has other bytes")
	}
}

func TestBodiesAreNewMemory(t *testing.T) {
	for _, octets := range lengths() {
		for _, sync := range []bool{false, true} {
			d := made(t, 6)
			d.Write(3, slot(3, 1, 5, noise(1, octets)))
			if sync {
				d.Sync()
			}
			s, one, _, _ := Open(d, 0, 3)
			_, two, _, _ := Open(d, 0, 3)
			before := whole(t, d)
			body := one.Body[:cap(one.Body)]
			for i := range body {
				body[i] = '#'
			}
			if !bytes.Equal(two.Body, noise(1, octets)) || !bytes.Equal(whole(t, d), before) {
				t.Errorf("P8.3: a body of %d bytes that Open returned is not new memory", octets)
			}
			holds(t, "P8.3", "a further Open", d, 0, 3, saved{1, 5, noise(1, octets)})
			// What was read stays when both slots are written anew, and what is saved of it is a copy.
			saves(t, s, 6, body[:octets])
			clear(body)
			holds(t, "P8.3", "a body saved again", d, 0, 3, saved{2, 6, bytes.Repeat([]byte("#"), octets)})
			saves(t, s, 7, noise(9, 128))
			saves(t, s, 8, noise(8, 128))
			if two.Stamp != 5 || !bytes.Equal(two.Body, noise(1, octets)) {
				t.Errorf("P8.3: a body of %d bytes changes with later Saves", octets)
			}
		}
	}
}
