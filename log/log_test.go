package log

import (
	"bytes"
	"encoding/binary"
	"fmt"
	"hash/crc32"
	"math"
	"math/rand"
	"slices"
	"testing"

	"pentimento/api"
	"pentimento/disk"
)

// --- bytes, disks and logs

// noise are n bytes, none of them zero, which hang on the seed.
func noise(seed, n int) []byte {
	b := make([]byte, n)
	for i := range b {
		b[i] = byte(1 + (seed*89+i*7+i/64*31)%255)
	}
	return b
}

// blank are the bytes of n sectors that nobody has written.
func blank(n int) []byte { return make([]byte, 64*n) }

// record are the bytes of a record, by the chapter's words.
func record(stamp int, body []byte) []byte {
	b := blank(1)
	b[0] = 'R'
	binary.BigEndian.PutUint64(b[1:], uint64(stamp))
	binary.BigEndian.PutUint32(b[9:], uint32(len(body)))
	binary.BigEndian.PutUint32(b[13:], crc32.ChecksumIEEE(body))
	for len(body) > 0 {
		n := min(63, len(body))
		b = append(b, 0)
		b = append(b, body[:n]...)
		b = append(b, make([]byte, 63-n)...)
		body = body[n:]
	}
	return b
}

// records are the bytes of records with consecutive stamps, behind after.
func records(after int, bodies ...[]byte) []byte {
	var b []byte
	for i, body := range bodies {
		b = append(b, record(after+1+i, body)...)
	}
	return b
}

// made is a new disk of n sectors.
func made(t *testing.T, n int) *disk.Disk {
	t.Helper()
	d, e := disk.New(n)
	if e != api.OK {
		t.Fatalf("disk.New(%d) = %d", n, e)
	}
	return d
}

// laid is a new disk of n sectors, the first of which have b.
func laid(t *testing.T, n int, b []byte) *disk.Disk {
	t.Helper()
	d := made(t, n)
	lay(t, d, 0, b)
	return d
}

// lay makes b durable from sector at on.
func lay(t *testing.T, d *disk.Disk, at int, b []byte) {
	t.Helper()
	if len(b) == 0 {
		return
	}
	if e := d.Write(at, b); e != api.OK {
		t.Fatalf("disk.Write(%d, %d bytes) = %d", at, len(b), e)
	}
	if e := d.Sync(); e != api.OK {
		t.Fatalf("disk.Sync() = %d", e)
	}
}

// whole are the bytes of the disk, with what is pending.
func whole(t *testing.T, d *disk.Disk) []byte {
	t.Helper()
	b, e := d.Read(0, d.Size())
	if e != api.OK {
		t.Fatalf("disk.Read = %d", e)
	}
	return b
}

// opened is the log of a region, and its entries.
func opened(t *testing.T, d *disk.Disk, from, n, after int) (*Log, []api.Entry) {
	t.Helper()
	l, entries, e := Open(d, from, n, after)
	if l == nil || e != api.OK {
		t.Fatalf("P7.1: Open(%d, %d, %d) = %v, %d, want OK", from, n, after, l != nil, e)
	}
	return l, entries
}

// refuses asks that Open returns nothing and that error.
func refuses(t *testing.T, d *disk.Disk, from, n, after int, want api.Errno) {
	t.Helper()
	if l, entries, e := Open(d, from, n, after); l != nil || len(entries) != 0 || e != want {
		t.Errorf("P7.1: Open(%d, %d, %d) = %v, %d entries, %d, want nothing, %d", from, n, after, l != nil, len(entries), e, want)
	}
}

// space asks for Last and Room.
func space(t *testing.T, promise string, l *Log, last, room int) {
	t.Helper()
	if l.Last() != last || l.Room() != room {
		t.Errorf("%s: Last() = %d, Room() = %d, want %d, %d", promise, l.Last(), l.Room(), last, room)
	}
}

// same asks for entries with the stamps behind after and those bodies.
func same(t *testing.T, promise, what string, entries []api.Entry, after int, bodies ...[]byte) {
	t.Helper()
	if len(entries) != len(bodies) {
		t.Errorf("%s: %s: %d entries, want %d", promise, what, len(entries), len(bodies))
		return
	}
	for i, x := range entries {
		if x.Stamp != after+1+i || !bytes.Equal(x.Body, bodies[i]) {
			t.Errorf("%s: %s: entry %d is %d %.80q, want %d %.80q", promise, what, i, x.Stamp, x.Body, after+1+i, bodies[i])
		}
	}
}

// holds opens a region, asks for those entries and for Last and Room, and returns the log.
func holds(t *testing.T, promise, what string, d *disk.Disk, from, n, after int, bodies ...[]byte) *Log {
	t.Helper()
	l, entries := opened(t, d, from, n, after)
	same(t, promise, what, entries, after, bodies...)
	space(t, promise, l, after+len(bodies), 63*(n-len(records(0, bodies...))/64)-63)
	return l
}

// appends appends, and asks that it works.
func appends(t *testing.T, l *Log, body []byte) {
	t.Helper()
	last := l.Last()
	if e := l.Append(last+1, body); e != api.OK || l.Last() != last+1 {
		t.Fatalf("P7.2: Append(%d, %d bytes) = %d, Last() = %d", last+1, len(body), e, l.Last())
	}
}

// fails asks for an error of Append, and that Last and Room stay.
func fails(t *testing.T, promise string, l *Log, stamp int, body []byte, want api.Errno) {
	t.Helper()
	last, room := l.Last(), l.Room()
	if e := l.Append(stamp, body); e != want {
		t.Errorf("%s: Append(%d, %d bytes) behind %d with room for %d = %d, want %d", promise, stamp, len(body), last, room, e, want)
	}
	space(t, promise, l, last, room)
}

// resets asks what Reset returns, and that Last and Room stay if that is an error.
func resets(t *testing.T, l *Log, after int, want api.Errno) {
	t.Helper()
	last, room := l.Last(), l.Room()
	if e := l.Reset(after); e != want {
		t.Errorf("P7.3: Reset(%d) behind %d = %d, want %d", after, last, e, want)
	}
	if want != api.OK {
		space(t, "P7.3", l, last, room)
	}
}

// calls asks how many calls of the disk f makes: with that many the power is off behind it, with one more it is on.
func calls(t *testing.T, promise string, d *disk.Disk, want int, f func()) {
	t.Helper()
	d.Limit(want + 1)
	f()
	if _, e := d.Read(0, 1); e != api.OK {
		t.Errorf("%s: more than %d calls of the disk", promise, want)
	}
	if _, e := d.Read(0, 1); e != api.ErrOff {
		t.Errorf("%s: fewer than %d calls of the disk", promise, want)
	}
	d.Crash()
}

// lengths are those of bodies about the ends of sectors.
func lengths() []int { return []int{0, 1, 2, 62, 63, 64, 65, 125, 126, 127, 128, 189, 190} }

// stamps are numbers of all sizes.
func stamps() []int {
	return []int{math.MinInt, math.MinInt + 1, -api.MaxStamp, -1 << 32, -2, -1, 0, 1, 2, 3, 4, 5, 6, 7, 8, 9, 255, 256, 261, 1 << 32, 1<<32 + 5, api.MaxStamp - 1, api.MaxStamp, api.MaxStamp + 1, 1 << 62, math.MaxInt - 1, math.MaxInt}
}

func TestExample(t *testing.T) {
	d := made(t, 8)
	l := holds(t, "P7.1", "a new disk", d, 0, 8, 0)
	appends(t, l, []byte("ab"))
	want := append(record(1, []byte("ab")), blank(6)...)
	if got := whole(t, d); !bytes.Equal(got, want) {
		t.Errorf("P7.2: the disk has %q, want %q", got, want)
	}
	space(t, "P7.2", l, 1, 5*63)
	fails(t, "P7.2", l, 3, []byte("c"), api.ErrArg)
	holds(t, "P7.4", "the example", d, 0, 8, 0, []byte("ab"))
}

// --- P7.1: Open's errors

func TestOpenOfNoDisk(t *testing.T) {
	for _, after := range stamps() {
		for _, from := range []int{-1, 0, 5, math.MaxInt} {
			for _, n := range []int{-1, 0, 1, 5, math.MaxInt} {
				refuses(t, nil, from, n, after, api.ErrNil)
			}
		}
	}
}

func TestOpenOfStampsThatAreNone(t *testing.T) {
	for _, after := range stamps() {
		if after >= 0 && after <= api.MaxStamp {
			continue
		}
		d := laid(t, 4, record(after+1, []byte("a")))
		calls(t, "P7.1", d, 0, func() { refuses(t, d, 0, 4, after, api.ErrArg) })
		refuses(t, d, -1, 0, after, api.ErrArg)
		// It is ErrArg also where the disk's error would be another one.
		d.Limit(0)
		refuses(t, d, 0, 4, after, api.ErrArg)
	}
}

func TestOpenOfStamps(t *testing.T) {
	for _, after := range stamps() {
		if after >= 0 && after <= api.MaxStamp {
			holds(t, "P7.1", "a new disk", made(t, 4), 0, 4, after)
		}
	}
}

func TestOpenOfRegions(t *testing.T) {
	const size = 5
	places := []int{math.MinInt, math.MinInt + 1, math.MinInt + size, -64, -6, 1 << 26, 1 << 57, 1 << 58, math.MaxInt - 1, math.MaxInt}
	for i := -2; i <= size+2; i++ {
		places = append(places, i)
	}
	for _, from := range places {
		for _, n := range places {
			d := made(t, size)
			if from < 0 || n < 1 || from >= size || n > size-from {
				calls(t, "P7.1", d, 0, func() { refuses(t, d, from, n, 0, api.ErrArg) })
				// A region that is none is the disk's ErrArg also with the power off.
				d.Limit(0)
				refuses(t, d, from, n, 0, api.ErrArg)
				continue
			}
			d.Limit(0)
			refuses(t, d, from, n, 0, api.ErrOff)
			d.Crash()
			l := holds(t, "P7.1", "a region", d, from, n, 9)
			appends(t, l, nil)
			want := blank(size)
			copy(want[64*from:], record(10, nil))
			if !bytes.Equal(whole(t, d), want) {
				t.Errorf("P7.1: the log of %d sectors from %d on writes elsewhere", n, from)
			}
		}
	}
}

func TestOpenWithThePowerOff(t *testing.T) {
	d := laid(t, 8, records(0, []byte("a"), []byte("b")))
	d.Limit(0)
	for _, after := range []int{0, 1, 7, api.MaxStamp} {
		refuses(t, d, 0, 8, after, api.ErrOff)
		refuses(t, d, 2, 1, after, api.ErrOff)
	}
	d.Crash()
	holds(t, "P7.1", "behind a crash", d, 0, 8, 0, []byte("a"), []byte("b"))
}

func TestOpenIsOneRead(t *testing.T) {
	full := [][]byte{nil, noise(1, 64), []byte("a"), nil, nil}
	for _, bodies := range [][][]byte{nil, full[:1], full[:3], full} {
		for _, n := range []int{9, 12} {
			d := laid(t, 12, records(3, bodies...))
			calls(t, "P7.1", d, 1, func() { holds(t, "P7.1", "one call", d, 0, n, 3, bodies...) })
		}
	}
	// It neither writes nor synchronizes.
	d := laid(t, 4, record(1, []byte("a")))
	d.Write(2, noise(1, 65))
	holds(t, "P7.1", "beside pending writes", d, 0, 2, 0, []byte("a"))
	if d.Waiting() != 2 {
		t.Errorf("P7.1: behind Open %d writes are pending, want 2", d.Waiting())
	}
}

// --- P7.1: the entries that Open finds

func TestOpenOfANewRegion(t *testing.T) {
	for _, n := range []int{1, 2, 3, 64, 1000, 65536} {
		d := made(t, n)
		for _, after := range []int{0, 1, api.MaxStamp} {
			holds(t, "P7.1", "a new region", d, 0, n, after)
			holds(t, "P7.1", "a new region", d, n-1, 1, after)
		}
	}
}

func TestOpenOfEveryLength(t *testing.T) {
	for octets := range 260 {
		body := noise(octets, octets)
		b := record(1, body)
		size := len(b) / 64
		d := laid(t, size+2, b)
		what := fmt.Sprintf("a body of %d bytes", octets)
		holds(t, "P7.1", what, d, 0, size, 0, body)
		holds(t, "P7.1", what, d, 0, size+2, 0, body)
		for n := 1; n < size; n++ {
			// The rest of the record is on the disk, but not in the region.
			holds(t, "P7.1", what+" that reaches beyond the region", d, 0, n, 0)
		}
		for from := 1; from < size; from++ {
			holds(t, "P7.1", what+" without its beginning", d, from, size+2-from, 0)
		}
	}
}

func TestOpenOfBodiesOfZeros(t *testing.T) {
	for _, octets := range lengths() {
		bodies := [][]byte{make([]byte, octets), {'R'}, make([]byte, octets), bytes.Repeat([]byte{255}, octets)}
		b := records(8, bodies...)
		holds(t, "P7.1", "zeros", laid(t, len(b)/64+1, b), 0, len(b)/64+1, 8, bodies...)
	}
}

func TestOpenOfSeveralRecords(t *testing.T) {
	for _, after := range []int{0, 1, 254, 255, 256, 65535, 1<<32 - 2, 1 << 40, api.MaxStamp - 3} {
		for _, one := range lengths() {
			for _, two := range lengths() {
				bodies := [][]byte{noise(1, one), noise(2, two), noise(3, one)}
				b := records(after, bodies...)
				size := len(b) / 64
				d := made(t, size+3)
				lay(t, d, 1, b)
				holds(t, "P7.1", "three records", d, 1, size+2, after, bodies...)
				holds(t, "P7.1", "a region that is full", d, 1, size, after, bodies...)
				if size > 3 {
					holds(t, "P7.1", "a region that lacks one sector", d, 1, size-1, after, bodies[:2]...)
				}
				holds(t, "P7.1", "another stamp", d, 1, size, after+1)
				if after > 0 {
					holds(t, "P7.1", "another stamp", d, 1, size, after-1)
				}
			}
		}
	}
}

func TestOpenOfManyRecords(t *testing.T) {
	var bodies [][]byte
	for i := range 1000 {
		bodies = append(bodies, noise(i, i*37%200))
	}
	b := records(77, bodies...)
	d := laid(t, len(b)/64, b)
	holds(t, "P7.1", "1000 records", d, 0, d.Size(), 77, bodies...)
	d = laid(t, api.MaxDisk, records(0, make([][]byte, api.MaxDisk)...))
	holds(t, "P7.1", "as many records as a disk can have", d, 0, api.MaxDisk, 0, make([][]byte, api.MaxDisk)...)
}

func TestOpenOfTheGreatestStamps(t *testing.T) {
	for before := range 4 {
		after := api.MaxStamp - before
		// What has the stamps beyond MaxStamp is not read.
		bodies := [][]byte{[]byte("a"), nil, []byte("b"), nil, []byte("c"), []byte("d")}
		d := laid(t, 16, records(after, bodies...))
		l := holds(t, "P7.1", fmt.Sprint("behind MaxStamp - ", before), d, 0, 16, after, bodies[:before]...)
		fails(t, "P7.2", l, api.MaxStamp+1, nil, api.ErrArg)
	}
}

// broken asks that a record that was changed is not read, nor what follows it, wherever it stands.
func broken(t *testing.T, what string, stamp int, b, body []byte) {
	t.Helper()
	if stamp != 3 {
		t.Fatal("the record in question is to have stamp 3")
	}
	size := len(b) / 64
	d := laid(t, size+2, append(slices.Clone(b), record(4, nil)...))
	holds(t, "P7.1", what+", first", d, 0, size+2, 2)
	before := records(0, []byte("x"), noise(1, 64))
	d = laid(t, size+7, append(append(slices.Clone(before), b...), record(4, nil)...))
	l := holds(t, "P7.1", what+", third", d, 0, size+7, 0, []byte("x"), noise(1, 64))
	// The next record takes the place of the one that is broken.
	appends(t, l, body)
	l, entries := opened(t, d, 0, size+7, 0)
	if len(entries) < 3 || !bytes.Equal(entries[2].Body, body) || l.Last() < 3 {
		t.Errorf("P7.1: %s: what was written over it is not read", what)
	}
}

func TestOpenOfBrokenHeaders(t *testing.T) {
	for _, octets := range lengths() {
		body := noise(5, octets)
		change := func(what string, at int, b ...byte) {
			changed := record(3, body)
			copy(changed[at:], b)
			if bytes.Equal(changed, record(3, body)) {
				t.Fatalf("%s: nothing has changed", what)
			}
			broken(t, fmt.Sprintf("%s with %d bytes", what, octets), 3, changed, body)
		}
		for _, first := range []byte{0, 1, 'r', 'S', 'Q', 'R' ^ 128, 255} {
			change("a wrong first byte", 0, first)
		}
		for _, stamp := range stamps() {
			if stamp != 3 {
				change(fmt.Sprint("the stamp ", stamp), 1, binary.BigEndian.AppendUint64(nil, uint64(stamp))...)
			}
		}
		for bit := range 64 {
			change(fmt.Sprint("another bit ", bit, " of the stamp"), 1, binary.BigEndian.AppendUint64(nil, 3^1<<bit)...)
		}
		change("the stamp, least significant first", 1, 3, 0, 0, 0, 0, 0, 0, 0)
		for bit := range 32 {
			change(fmt.Sprint("another bit ", bit, " of the length"), 9, binary.BigEndian.AppendUint32(nil, uint32(octets)^1<<bit)...)
			change(fmt.Sprint("another bit ", bit, " of the checksum"), 13, binary.BigEndian.AppendUint32(nil, crc32.ChecksumIEEE(body)^1<<bit)...)
		}
		for at := 17; at < 64; at++ {
			for _, b := range []byte{1, 128, 255} {
				change(fmt.Sprint("byte ", at, " of the header"), at, b)
			}
		}
	}
}

func TestOpenOfLengthsThatReachBeyond(t *testing.T) {
	body := noise(1, 126)
	b := record(3, body)
	for _, octets := range []uint32{127, 189, 190, 252, 253, 1000, 63 * 65535, 63*65535 + 1, 1<<20 - 1, 1 << 20, 1<<20 + 1, 1 << 22, 1<<31 - 1, 1 << 31, 1<<32 - 64, 1<<32 - 1} {
		binary.BigEndian.PutUint32(b[9:], octets)
		binary.BigEndian.PutUint32(b[13:], crc32.ChecksumIEEE(make([]byte, 1<<21)[:min(octets, 1<<21)]))
		broken(t, fmt.Sprint("the length ", octets), 3, b, body)
	}
}

func TestOpenOfBodiesThatAreTooLong(t *testing.T) {
	long := noise(3, api.MaxBody+200)
	for _, octets := range []int{api.MaxBody - 1, api.MaxBody, api.MaxBody + 1, api.MaxBody + 2, api.MaxBody + 200} {
		b := append(record(3, long[:octets]), record(4, []byte("a"))...)
		size := len(b) / 64
		d := laid(t, size, b)
		if octets > api.MaxBody {
			holds(t, "P7.1", fmt.Sprint(octets, " bytes"), d, 0, size, 2)
			continue
		}
		holds(t, "P7.1", fmt.Sprint(octets, " bytes"), d, 0, size, 2, long[:octets], []byte("a"))
		holds(t, "P7.1", fmt.Sprint(octets, " bytes beyond the region"), d, 0, size-3, 2)
	}
	// Lengths that fill the greatest disk, and more.
	huge := append(record(1, noise(3, api.MaxBody)), blank(40000)...)
	for _, octets := range []uint32{63 * 40000, 63 * 60000, 1<<32 - 1} {
		binary.BigEndian.PutUint32(huge[9:], octets)
		d := laid(t, len(huge)/64, huge)
		holds(t, "P7.1", fmt.Sprint("the length ", octets), d, 0, d.Size(), 0)
	}
}

func TestOpenOfBrokenBodies(t *testing.T) {
	for _, octets := range lengths() {
		body := noise(5, octets)
		whole := record(3, body)
		for at := 64; at < len(whole); at++ {
			for _, bit := range []byte{1, 'R', 128} {
				b := slices.Clone(whole)
				b[at] ^= bit
				what := "a byte of the body"
				if at%64 == 0 {
					what = "a body sector that begins with another byte"
				} else if (at/64-1)*63+at%64-1 >= octets {
					what = "padding that is not zero"
				}
				broken(t, fmt.Sprintf("%s: byte %d of %d bytes", what, at, octets), 3, b, body)
			}
		}
	}
	// Sectors of a body in another order, lost, or of another record.
	b := record(3, noise(5, 126))
	swapped := slices.Concat(b[:64], b[128:], b[64:128])
	broken(t, "body sectors in another order", 3, swapped, noise(5, 126))
	for _, i := range []int{1, 2} {
		lost := slices.Clone(b)
		clear(lost[64*i : 64*i+64])
		broken(t, fmt.Sprint("without body sector ", i), 3, lost, noise(5, 126))
		other := slices.Clone(b)
		copy(other[64*i:], record(3, noise(6, 126))[64*i:64*i+64])
		broken(t, fmt.Sprint("with another record's body sector ", i), 3, other, noise(5, 126))
	}
}

func TestOpenDoesNotTakeBodiesForRecords(t *testing.T) {
	inner := record(2, []byte("inner"))
	body := append(inner, 0)
	b := records(0, body, []byte("outer"))
	d := laid(t, len(b)/64, b)
	holds(t, "P7.1", "a record in a body", d, 0, d.Size(), 0, body, []byte("outer"))
	for from := 1; from < 4; from++ {
		for after := range 3 {
			holds(t, "P7.1", "a record in a body", d, from, 4-from, after)
		}
	}
}

// found are the entries of a region, by the chapter's words, and how many sectors their records have.
func found(region []byte, after int) ([]api.Entry, int) {
	var entries []api.Entry
	used := 0
	for stamp := after + 1; stamp <= api.MaxStamp; stamp++ {
		body, ok := presented(region[64*used:], stamp)
		if !ok {
			break
		}
		entries = append(entries, api.Entry{Stamp: stamp, Body: body})
		used += 1 + (len(body)+62)/63
	}
	return entries, used
}

// presented is the body of the record that is present at the beginning of b, if one is.
func presented(b []byte, stamp int) ([]byte, bool) {
	if len(b) < 64 || b[0] != 'R' || binary.BigEndian.Uint64(b[1:]) != uint64(stamp) || strip(b[17:64]) != 0 {
		return nil, false
	}
	octets := int(binary.BigEndian.Uint32(b[9:]))
	sectors := (octets + 62) / 63
	if octets > 1<<20 || 64+64*sectors > len(b) {
		return nil, false
	}
	var body []byte
	for i := range sectors {
		sector := b[64+64*i : 128+64*i]
		if sector[0] != 0 {
			return nil, false
		}
		body = append(body, sector[1:]...)
	}
	if strip(body[octets:]) != 0 || crc32.ChecksumIEEE(body[:octets]) != binary.BigEndian.Uint32(b[13:]) {
		return nil, false
	}
	return body[:octets], true
}

// strip is how many bytes of b are left without the zeros at its end.
func strip(b []byte) int { return len(bytes.TrimRight(b, "\x00")) }

// agrees asks that Open finds what the chapter's words find.
func agrees(t *testing.T, what string, region []byte, after int) {
	t.Helper()
	entries, used := found(region, after)
	d := laid(t, len(region)/64, region)
	l, got := opened(t, d, 0, d.Size(), after)
	var bodies [][]byte
	for _, x := range entries {
		bodies = append(bodies, x.Body)
	}
	same(t, "P7.1", what, got, after, bodies...)
	space(t, "P7.1", l, after+len(bodies), 63*(d.Size()-used)-63)
}

func TestOpenOfEveryByteChanged(t *testing.T) {
	for _, bodies := range [][][]byte{
		{nil, []byte("a"), nil},
		{noise(1, 63), noise(2, 64)},
		{noise(1, 100), make([]byte, 64), []byte{0}},
	} {
		region := append(records(257, bodies...), blank(1)...)
		for at := range region {
			before := region[at]
			for change := range 256 {
				if at%64 > 17 && change > 2 {
					break
				}
				region[at] = byte(change)
				agrees(t, fmt.Sprintf("byte %d changed to %d", at, change), region, 257)
			}
			region[at] = before
		}
	}
}

func TestOpenOfRandomRegions(t *testing.T) {
	random := rand.New(rand.NewSource(1))
	for i := range 20000 {
		stamp := random.Intn(300)
		after := stamp
		var region []byte
		for range 1 + random.Intn(6) {
			stamp++
			b := record(stamp, noise(random.Intn(99), random.Intn(200)))
			switch random.Intn(40) {
			case 0:
				b = noise(i, 64)
			case 1:
				b = blank(1 + random.Intn(2))
			case 2:
				b[random.Intn(len(b))] ^= 1 << random.Intn(8)
			case 3:
				b = b[:64]
			case 4:
				b = append(b, blank(1)...)
			case 5:
				stamp += random.Intn(3) - 1
			case 6:
				b[9+random.Intn(4)] = byte(random.Intn(4))
			case 7:
				clear(b[64*random.Intn(len(b)/64):][:64])
			}
			region = append(region, b...)
		}
		if random.Intn(10) == 0 {
			region = append(region[:64], region[64*random.Intn(len(region)/64):]...)
		}
		if random.Intn(4) == 0 && len(region) > 64 {
			region = region[:len(region)-64]
		}
		agrees(t, fmt.Sprint("random region ", i), region, after)
	}
}

// --- P7.2: Append's errors

func TestAppendOfOtherStamps(t *testing.T) {
	long := noise(1, api.MaxBody+1)
	for _, after := range []int{0, 5, 255, api.MaxStamp - 1, api.MaxStamp} {
		d := made(t, 8)
		l := holds(t, "P7.2", "a new disk", d, 0, 8, after)
		for range 3 {
			last := l.Last()
			for _, stamp := range append(stamps(), last-1, last, last+2, -last-1, after) {
				if stamp == last+1 && stamp <= api.MaxStamp {
					continue
				}
				for _, octets := range []int{0, 1, 64, 1000, api.MaxBody + 1} {
					calls(t, "P7.2", d, 0, func() { fails(t, "P7.2", l, stamp, long[:octets], api.ErrArg) })
				}
			}
			if last < api.MaxStamp {
				appends(t, l, []byte("a"))
			}
		}
	}
}

func TestAppendUpToTheGreatestStamp(t *testing.T) {
	d := made(t, 8)
	l := holds(t, "P7.2", "a new disk", d, 0, 8, api.MaxStamp-2)
	appends(t, l, []byte("a"))
	appends(t, l, []byte("b"))
	fails(t, "P7.2", l, api.MaxStamp+1, nil, api.ErrArg)
	space(t, "P7.2", l, api.MaxStamp, 3*63)
	l = holds(t, "P7.2", "reopened", d, 0, 8, api.MaxStamp-2, []byte("a"), []byte("b"))
	fails(t, "P7.2", l, api.MaxStamp+1, nil, api.ErrArg)
	fails(t, "P7.2", l, api.MaxStamp, nil, api.ErrArg)
}

func TestAppendOfTheLongestBody(t *testing.T) {
	size := Sectors(api.MaxBody)
	for _, room := range []int{size, size + 1, size + 1000, api.MaxDisk} {
		d := made(t, room)
		l := holds(t, "P7.2", "a new disk", d, 0, room, 0)
		long := noise(4, api.MaxBody+2)
		calls(t, "P7.2", d, 0, func() {
			fails(t, "P7.2", l, 1, long[:api.MaxBody+1], api.ErrLong)
			fails(t, "P7.2", l, 1, long, api.ErrLong)
		})
		appends(t, l, long[:api.MaxBody])
		holds(t, "P7.2", "the longest body", d, 0, room, 0, long[:api.MaxBody])
	}
	// One sector lacks.
	d := made(t, size)
	l := holds(t, "P7.2", "a new disk", d, 0, size-1, 0)
	fails(t, "P7.2", l, 1, noise(4, api.MaxBody), api.ErrFull)
	fails(t, "P7.2", l, 1, noise(4, api.MaxBody+1), api.ErrLong)
}

func TestAppendIntoWhatIsLeft(t *testing.T) {
	for _, octets := range lengths() {
		for _, before := range [][][]byte{nil, {nil}, {noise(1, 63)}, {noise(1, 64), nil}} {
			body := noise(9, octets)
			used := len(records(0, before...)) / 64
			size := len(record(1, body)) / 64
			for n := used; n <= used+size+1; n++ {
				if n == 0 {
					continue
				}
				d := laid(t, n+2, blank(n+2))
				l, _ := opened(t, d, 1, n, 0)
				for _, b := range before {
					appends(t, l, b)
				}
				if n < used+size {
					calls(t, "P7.2", d, 0, func() { fails(t, "P7.2", l, len(before)+1, body, api.ErrFull) })
					holds(t, "P7.2", "a full region", d, 1, n, 0, before...)
					continue
				}
				appends(t, l, body)
				holds(t, "P7.2", "it fits", d, 1, n, 0, append(slices.Clone(before), body)...)
			}
		}
	}
}

func TestOrderOfErrors(t *testing.T) {
	short, long, full := []byte("a"), noise(1, api.MaxBody+1), noise(2, 64)
	d := made(t, 4)
	l, _ := opened(t, d, 1, 2, 0)
	refused := func(promise string) {
		t.Helper()
		for _, body := range [][]byte{nil, short, full, long} {
			fails(t, promise, l, 0, body, api.ErrArg)
			fails(t, promise, l, 2, body, api.ErrArg)
		}
		fails(t, promise, l, 1, long, api.ErrLong)
		fails(t, promise, l, 1, full, api.ErrFull)
		resets(t, l, -1, api.ErrArg)
	}
	refused("P7.2")
	// They also come ahead of the disk's error, and none of them is one.
	d.Limit(0)
	refused("P7.2")
	d.Crash()
	refused("P7.2")
	d.Limit(0)
	for range 2 {
		fails(t, "P7.2", l, 1, short, api.ErrOff)
		for _, body := range [][]byte{nil, short, full, long} {
			for _, stamp := range stamps() {
				fails(t, "P7.2", l, stamp, body, api.ErrOff)
			}
		}
		for _, after := range stamps() {
			resets(t, l, after, api.ErrOff)
		}
		// A crash turns the power on, but not the log.
		d.Crash()
	}
	l = holds(t, "P7.2", "reopened", d, 1, 2, 0)
	appends(t, l, short)
}

func TestOtherErrorsLeaveTheLogOn(t *testing.T) {
	d := made(t, 3)
	l, _ := opened(t, d, 0, 3, 0)
	for i, body := range [][]byte{nil, noise(1, 63)} {
		fails(t, "P7.2", l, 9, nil, api.ErrArg)
		fails(t, "P7.2", l, i+1, noise(1, api.MaxBody+1), api.ErrLong)
		fails(t, "P7.2", l, i+1, noise(1, 190), api.ErrFull)
		resets(t, l, -1, api.ErrArg)
		resets(t, l, api.MaxStamp+1, api.ErrArg)
		appends(t, l, body)
	}
	fails(t, "P7.2", l, 3, nil, api.ErrFull)
	resets(t, l, 2, api.OK)
	appends(t, l, nil)
	holds(t, "P7.2", "the log", d, 0, 3, 2, nil)
}

// --- P7.2: what Append does

func TestAppendWritesARecord(t *testing.T) {
	for octets := range 260 {
		for _, first := range lengths() {
			if octets > 130 && first > 2 {
				break
			}
			const after = 0x0102030405060708
			bodies := [][]byte{noise(1, first), noise(2, octets)}
			b := records(after, bodies...)
			size := len(b) / 64
			want := noise(3, 64*(size+5))
			d := laid(t, size+5, want)
			l, _ := opened(t, d, 2, size+2, after)
			for i, body := range bodies {
				appends(t, l, body)
				so := len(records(after, bodies[:i+1]...)) / 64
				space(t, "P7.2", l, after+i+1, 63*(size+2-so)-63)
				// What stood there ahead must not show, and all beside it stays.
				copy(want[128:], b[:64*so])
				if !bytes.Equal(whole(t, d), want) {
					t.Fatalf("P7.2: Append(%d, %d bytes): another record, or more than one, is on the disk", after+i+1, len(body))
				}
				if d.Waiting() != 0 {
					t.Errorf("P7.2: behind Append %d writes are pending", d.Waiting())
				}
			}
		}
	}
}

func TestCallsOfAppend(t *testing.T) {
	for _, octets := range lengths() {
		d := made(t, 12)
		l, _ := opened(t, d, 1, 11, 0)
		want := 4
		if octets == 0 {
			want = 2
		}
		calls(t, "P7.2", d, want, func() { appends(t, l, noise(1, octets)) })
		calls(t, "P7.2", d, want, func() { appends(t, l, noise(2, octets)) })
	}
	d := made(t, 12)
	l, _ := opened(t, d, 1, 11, 0)
	calls(t, "P7.2", d, 2, func() { appends(t, l, []byte{}) })
}

// TestPowerOffDuringAppend turns the power off ahead of each call, and looks at what is pending then, and at what the
// sectors have if all of it is preserved, or nothing.
func TestPowerOffDuringAppend(t *testing.T) {
	for _, octets := range lengths() {
		body := noise(7, octets)
		b := record(2, body)
		size := len(b) / 64
		type state struct {
			waiting    int
			none, kept []byte
		}
		old := noise(5, 64*(size+4))
		copy(old, record(1, nil))
		with := func(from, to int) []byte {
			changed := slices.Clone(old)
			copy(changed[64+from:64+to], b[from:to])
			return changed
		}
		states := []state{{0, old, old}, {1, old, with(0, 64)}}
		if octets > 0 {
			rest := with(64, len(b))
			states = []state{{0, old, old}, {size - 1, old, rest}, {0, rest, rest}, {1, rest, with(0, len(b))}}
		}
		for limit, s := range states {
			for _, preserved := range []bool{false, true} {
				d := laid(t, size+4, old)
				l, _ := opened(t, d, 0, size+4, 0)
				d.Limit(limit)
				fails(t, "P7.2", l, 2, body, api.ErrOff)
				if d.Waiting() != s.waiting {
					t.Errorf("P7.2: Append of %d bytes with %d calls: %d writes are pending, want %d", octets, limit, d.Waiting(), s.waiting)
				}
				var keep []int
				want := s.none
				if preserved {
					keep, want = upTo(s.waiting), s.kept
				}
				d.Crash(keep...)
				if !bytes.Equal(whole(t, d), want) {
					t.Errorf("P7.2: Append of %d bytes with %d calls: the disk has other bytes behind a crash, kept: %v", octets, limit, keep)
				}
				for range 3 {
					fails(t, "P7.2", l, 2, nil, api.ErrOff)
					fails(t, "P7.2", l, 3, body, api.ErrOff)
					resets(t, l, 1, api.ErrOff)
					resets(t, l, 9, api.ErrOff)
				}
				space(t, "P7.2", l, 1, 63*(size+3)-63)
				if !bytes.Equal(whole(t, d), want) {
					t.Errorf("P7.2: a call behind an error of the disk changes the disk")
				}
			}
		}
		// With all calls made the power goes off behind them.
		d := laid(t, size+4, old)
		l, _ := opened(t, d, 0, size+4, 0)
		d.Limit(len(states))
		appends(t, l, body)
		fails(t, "P7.2", l, 3, nil, api.ErrOff)
		d.Crash()
		holds(t, "P7.4", "all calls", d, 0, size+4, 0, nil, body)
	}
}

// upTo are the numbers below n.
func upTo(n int) []int {
	var numbers []int
	for i := range n {
		numbers = append(numbers, i)
	}
	return numbers
}

func TestErrorOfALaterAppend(t *testing.T) {
	d := made(t, 10)
	l, _ := opened(t, d, 0, 10, 0)
	d.Limit(7)
	appends(t, l, []byte("a"))
	fails(t, "P7.2", l, 2, []byte("b"), api.ErrOff)
	d.Crash(0)
	// The record is there, but this log is off: it must be opened again.
	fails(t, "P7.2", l, 2, []byte("b"), api.ErrOff)
	fails(t, "P7.2", l, 3, []byte("b"), api.ErrOff)
	l = holds(t, "P7.4", "reopened", d, 0, 10, 0, []byte("a"), []byte("b"))
	appends(t, l, []byte("c"))
	holds(t, "P7.4", "reopened", d, 0, 10, 0, []byte("a"), []byte("b"), []byte("c"))
}

func TestLogSurvivesACrashBetweenAppends(t *testing.T) {
	// A crash between two calls is no error of the disk: the log goes on.
	d := made(t, 10)
	l, _ := opened(t, d, 0, 10, 0)
	appends(t, l, []byte("a"))
	d.Limit(0)
	d.Crash()
	appends(t, l, []byte("b"))
	d.Crash()
	holds(t, "P7.4", "reopened", d, 0, 10, 0, []byte("a"), []byte("b"))
}

func TestRoom(t *testing.T) {
	for n := 1; n <= 7; n++ {
		for _, before := range [][][]byte{nil, {nil}, {[]byte("a")}, {nil, nil, nil}, {noise(1, 64)}, {noise(1, 63), noise(2, 189)}} {
			used := len(records(0, before...)) / 64
			if used > n {
				continue
			}
			d := laid(t, n+3, records(0, before...))
			room := 63*(n-used) - 63
			test := func(l *Log) {
				t.Helper()
				last := l.Last()
				space(t, "P7.2", l, last, room)
				if room < 0 {
					fails(t, "P7.2", l, last+1, nil, api.ErrFull)
					return
				}
				fails(t, "P7.2", l, last+1, noise(1, room+1), api.ErrFull)
				appends(t, l, noise(1, room))
				space(t, "P7.2", l, last+1, -63)
				fails(t, "P7.2", l, last+2, nil, api.ErrFull)
			}
			l, _ := opened(t, d, 0, n, 0)
			test(l)
			// The same again, behind Reset and appended one by one.
			resets(t, l, 100, api.OK)
			space(t, "P7.3", l, 100, 63*n-63)
			for i, body := range before {
				appends(t, l, body)
				space(t, "P7.2", l, 101+i, 63*(n-len(records(0, before[:i+1]...))/64)-63)
			}
			test(l)
		}
	}
	// Room may be more than the longest body has.
	l, _ := opened(t, made(t, api.MaxDisk), 0, api.MaxDisk, 0)
	space(t, "P7.2", l, 0, 63*65535)
}

// --- P7.3: Reset, Sectors

func TestReset(t *testing.T) {
	for _, after := range []int{0, 7, api.MaxStamp - 3} {
		for _, bodies := range [][][]byte{nil, {nil}, {[]byte("a"), noise(1, 64)}} {
			last := after + len(bodies)
			for _, to := range append(stamps(), last-1, last, last+1, after) {
				d := laid(t, 9, records(after, bodies...))
				l, _ := opened(t, d, 1, 8, after)
				space(t, "P7.3", l, after, 7*63)
				l, _ = opened(t, d, 0, 8, after)
				want := api.OK
				if to < last || to > api.MaxStamp {
					want = api.ErrArg
				}
				before := whole(t, d)
				calls(t, "P7.3", d, 0, func() { resets(t, l, to, want) })
				if !bytes.Equal(whole(t, d), before) {
					t.Errorf("P7.3: Reset(%d) writes", to)
				}
				if want != api.OK {
					continue
				}
				space(t, "P7.3", l, to, 7*63)
				if to == api.MaxStamp {
					fails(t, "P7.3", l, to+1, nil, api.ErrArg)
					continue
				}
				fails(t, "P7.3", l, last, nil, api.ErrArg)
				fails(t, "P7.3", l, to+2, nil, api.ErrArg)
				appends(t, l, []byte("new"))
				if got := whole(t, d); !bytes.Equal(got, append(record(to+1, []byte("new")), before[128:]...)) {
					t.Errorf("P7.3: behind Reset(%d) the record is not at the beginning of the region", to)
				}
				holds(t, "P7.3", "behind Reset", d, 0, 8, to, []byte("new"))
			}
		}
	}
}

func TestResetWithThePowerOff(t *testing.T) {
	d := made(t, 6)
	l, _ := opened(t, d, 1, 4, 0)
	appends(t, l, []byte("a"))
	d.Write(0, []byte("pending"))
	d.Limit(0)
	resets(t, l, 0, api.ErrArg)
	resets(t, l, 5, api.OK)
	space(t, "P7.3", l, 5, 3*63)
	if d.Waiting() != 1 {
		t.Errorf("P7.3: behind Reset %d writes are pending, want 1", d.Waiting())
	}
	d.Crash()
	appends(t, l, []byte("b"))
	holds(t, "P7.3", "reopened", d, 1, 4, 5, []byte("b"))
}

func TestResetsInARow(t *testing.T) {
	d := made(t, 6)
	l, _ := opened(t, d, 0, 6, 0)
	for i := range 20 {
		resets(t, l, 3*i, api.OK)
		resets(t, l, 3*i, api.OK)
		resets(t, l, 3*i-1, api.ErrArg)
		holds(t, "P7.3", "reset", d, 0, 6, 3*i)
		appends(t, l, noise(i, i*40%190))
		appends(t, l, nil)
		holds(t, "P7.3", "reset and appended to", d, 0, 6, 3*i, noise(i, i*40%190), nil)
	}
}

// TestNoRecordFromBeforeReset writes records of all pairs of lengths over those of other pairs, so that old headers
// stand behind the new records at all distances.
func TestNoRecordFromBeforeReset(t *testing.T) {
	shapes := [][]int{{}, {0}, {1}, {64}, {0, 0, 0, 0}, {1, 1, 0}, {127, 0}, {0, 127}, {64, 1}, {200, 0, 1}}
	for _, old := range shapes {
		for _, fresh := range shapes {
			for _, skip := range []int{0, 1, 2, 5} {
				d := made(t, 12)
				l, _ := opened(t, d, 0, 12, 0)
				for i, octets := range old {
					appends(t, l, noise(i, octets))
				}
				after := l.Last() + skip
				resets(t, l, after, api.OK)
				var bodies [][]byte
				holds(t, "P7.3", fmt.Sprint("reset behind ", old), d, 0, 12, after)
				for i, octets := range fresh {
					bodies = append(bodies, noise(50+i, octets))
					appends(t, l, bodies[i])
					holds(t, "P7.3", fmt.Sprint(fresh[:i+1], " over ", old), d, 0, 12, after, bodies...)
				}
			}
		}
	}
}

func TestSectors(t *testing.T) {
	for _, x := range [][2]int{
		{math.MinInt, 1}, {math.MinInt + 1, 1}, {-64, 1}, {-63, 1}, {-2, 1}, {-1, 1}, {0, 1},
		{1, 2}, {2, 2}, {62, 2}, {63, 2}, {64, 3}, {65, 3}, {125, 3}, {126, 3}, {127, 4}, {128, 4}, {189, 4}, {190, 5},
		{api.MaxBody, 16646}, {api.MaxBody + 1, 16646}, {63 * 65535, 65536}, {63*65535 + 1, 65537},
		{math.MaxInt - 7, 146402730743726601}, {math.MaxInt - 6, 146402730743726602}, {math.MaxInt, 146402730743726602},
	} {
		if got := Sectors(x[0]); got != x[1] {
			t.Errorf("P7.3: Sectors(%d) = %d, want %d", x[0], got, x[1])
		}
	}
	for octets := range 2000 {
		if got, want := Sectors(octets), len(record(1, make([]byte, octets)))/64; got != want {
			t.Errorf("P7.3: Sectors(%d) = %d, want %d", octets, got, want)
		}
	}
}

// --- P7.4: crashes

// script is what is done to a log: a number of bytes to append, or below 0 a Reset, that many stamps beyond the last.
type script []int

// run does a script to a log until an Append fails. It returns the stamp behind which the log's entries stand then, the
// bodies that were appended with OK, and the one whose Append failed, nil if none did.
func (s script) run(l *Log) (int, [][]byte, *[]byte) {
	after := l.Last()
	var bodies [][]byte
	for i, step := range s {
		if step < 0 {
			if l.Reset(l.Last()-step-1) == api.OK {
				after, bodies = l.Last(), nil
			}
			continue
		}
		body := noise(i+3, step)
		if e := l.Append(l.Last()+1, body); e != api.OK {
			return after, bodies, &body
		}
		bodies = append(bodies, body)
	}
	return after, bodies, nil
}

// calls is how many calls of the disk a script makes.
func (s script) calls() int {
	n := 0
	for _, step := range s {
		if step == 0 {
			n += 2
		} else if step > 0 {
			n += 4
		}
	}
	return n
}

// scripts are those that TestCrashes does, in a region of 12 sectors.
func scripts() []script {
	return []script{
		{0}, {1}, {63}, {64}, {252},
		{0, 0, 0}, {1, 0, 126}, {64, 63, 1, 0}, {0, 190, 0, 127},
		{0, 0, 0, -1, 64, 0}, {64, 64, -1, 1, 0}, {190, 1, -3, 0, 127, 0}, {0, 0, 0, 0, 0, -1, 127, 0},
		{64, -1, 64, -1, 64, -2, 0, 63}, {-4, 126, 1, -1, -1, 0, 0},
	}
}

func TestCrashes(t *testing.T) {
	const size = 12
	old := records(0, noise(1, 64), nil, noise(2, 1), nil, nil, nil, nil)
	for _, s := range scripts() {
		for _, before := range [][]byte{nil, old, noise(9, 64*size), bytes.Repeat([]byte{'R'}, 64*size)} {
			for limit := range s.calls() + 1 {
				for subset := 0; ; subset++ {
					d := laid(t, size+2, blank(size+2))
					lay(t, d, 1, before)
					l, entries := opened(t, d, 1, size, 100)
					same(t, "P7.4", "the beginning", entries, 100)
					d.Limit(limit)
					after, bodies, failed := s.run(l)
					if (failed != nil) != (limit < s.calls()) {
						t.Fatalf("P7.4: %v with %d calls: has an Append failed? %v", s, limit, failed != nil)
					}
					if subset == 1<<d.Waiting() {
						break
					}
					crashed(t, fmt.Sprintf("%v with %d calls, subset %b", s, limit, subset), d, size, after, bodies, failed, subset)
				}
			}
		}
	}
}

// crashed lets the disk crash with those pending writes preserved, asks what the log in the sectors from 1 on has, and
// goes on with it. An Append that failed counts if the crash has preserved its whole record.
func crashed(t *testing.T, what string, d *disk.Disk, size, after int, bodies [][]byte, failed *[]byte, subset int) {
	t.Helper()
	var keep []int
	for i := range d.Waiting() {
		if subset>>i&1 == 1 {
			keep = append(keep, i)
		}
	}
	d.Crash(keep...)
	if failed != nil {
		b := whole(t, d)[64+len(records(after, bodies...)):]
		if bytes.HasPrefix(b, record(after+len(bodies)+1, *failed)) {
			bodies = append(slices.Clone(bodies), *failed)
		}
	}
	l := holds(t, "P7.4", what, d, 1, size, after, bodies...)
	// A crash during Open changes nothing.
	before := whole(t, d)
	d.Limit(0)
	refuses(t, d, 1, size, after, api.ErrOff)
	d.Crash(0, 1, 2)
	if !bytes.Equal(whole(t, d), before) {
		t.Errorf("P7.4: %s: Open changes the disk", what)
	}
	if l.Room() >= 0 {
		next := noise(77, min(l.Room(), 70))
		appends(t, l, next)
		d.Crash()
		holds(t, "P7.4", what+", and one more", d, 1, size, after, append(slices.Clone(bodies), next)...)
	}
}

// TestRandomLives lets a log live, crash and be opened again, many times on one disk.
func TestRandomLives(t *testing.T) {
	random := rand.New(rand.NewSource(1))
	for range 300 {
		size := 1 + random.Intn(14)
		d := made(t, size+2)
		after := random.Intn(1000)
		var bodies [][]byte
		for life := range 20 {
			l, entries := opened(t, d, 1, size, after)
			same(t, "P7.4", fmt.Sprint("life ", life), entries, after, bodies...)
			if random.Intn(3) > 0 {
				d.Limit(random.Intn(30))
			}
			var body []byte
			failed := false
			for range random.Intn(10) {
				if random.Intn(4) == 0 || l.Room() < 0 {
					after, bodies = l.Last()+random.Intn(3), nil
					resets(t, l, after, api.OK)
					continue
				}
				body = noise(random.Intn(99), random.Intn(min(200, l.Room()+1)))
				if e := l.Append(l.Last()+1, body); e != api.OK {
					failed = true
					break
				}
				bodies = append(bodies, body)
			}
			d.Crash(random.Perm(random.Intn(5))...)
			if _, entries = opened(t, d, 1, size, after); failed && len(entries) == len(bodies)+1 {
				bodies = append(bodies, body)
			}
			same(t, "P7.4", fmt.Sprint("behind life ", life), entries, after, bodies...)
			b := whole(t, d)
			if strip(b[:64]) != 0 || strip(b[64*(size+1):]) != 0 {
				t.Fatal("P7.4: the log writes beside its region")
			}
		}
	}
}

func TestTwoLogsOnOneDisk(t *testing.T) {
	d := made(t, 12)
	one, _ := opened(t, d, 0, 6, 0)
	two, _ := opened(t, d, 6, 6, 50)
	appends(t, one, []byte("a"))
	appends(t, two, noise(1, 126))
	appends(t, one, noise(2, 189))
	fails(t, "P7.2", one, 3, nil, api.ErrFull)
	resets(t, two, 60, api.OK)
	appends(t, two, noise(3, 200))
	space(t, "P7.2", one, 2, -63)
	space(t, "P7.2", two, 61, 0)
	d.Limit(1)
	fails(t, "P7.2", two, 62, nil, api.ErrOff)
	space(t, "P7.2", one, 2, -63)
	d.Crash()
	// Only the one whose Append failed is off.
	resets(t, one, 2, api.OK)
	resets(t, two, 70, api.ErrOff)
	appends(t, one, nil)
	holds(t, "P7.4", "one", d, 0, 6, 2, nil)
	holds(t, "P7.4", "two", d, 6, 6, 60, noise(3, 200))
}

// --- P7.4: memory

func TestAppendNeitherChangesNorKeepsItsArgument(t *testing.T) {
	for _, octets := range lengths() {
		for _, limit := range []int{-1, 1, 3} {
			d := made(t, 12)
			l, _ := opened(t, d, 0, 12, 0)
			all := append(noise(1, octets), bytes.Repeat([]byte("spare"), 60)...)
			before := slices.Clone(all)
			d.Limit(limit)
			e := l.Append(1, all[:octets])
			if !bytes.Equal(all, before) {
				t.Fatalf("P7.4: Append changed its argument of %d bytes or its spare capacity", octets)
			}
			for i := range all {
				all[i] = '#'
			}
			d.Crash(upTo(d.Waiting())...)
			if e == api.OK {
				appends(t, l, all[:octets])
				clear(all)
				holds(t, "P7.4", "an argument, changed later", d, 0, 12, 0, noise(1, octets), bytes.Repeat([]byte("#"), octets))
			} else if limit == 3 {
				holds(t, "P7.4", "an argument, changed later", d, 0, 12, 0, noise(1, octets))
			}
		}
	}
}

func TestOneBufferForAllAppends(t *testing.T) {
	d := made(t, 12)
	l, _ := opened(t, d, 0, 12, 0)
	buffer := make([]byte, 70)
	for i := range 4 {
		copy(buffer, noise(i, 70))
		appends(t, l, buffer)
	}
	clear(buffer)
	holds(t, "P7.4", "one buffer", d, 0, 12, 0, noise(0, 70), noise(1, 70), noise(2, 70), noise(3, 70))
}

func TestEntriesAreNewMemory(t *testing.T) {
	bodies := [][]byte{noise(1, 64), nil, noise(2, 1), noise(3, 63), noise(4, 126)}
	for _, sync := range []bool{false, true} {
		d := made(t, 14)
		d.Write(0, records(0, bodies...))
		if sync {
			d.Sync()
		}
		l, first := opened(t, d, 0, 14, 0)
		_, second := opened(t, d, 0, 14, 0)
		before := whole(t, d)
		for i := range first {
			body := first[i].Body
			body = body[:cap(body)]
			for j := range body {
				body[j] = '#'
			}
			first[i].Stamp = -1
			// The bodies of one result share no memory, not even behind their ends.
			same(t, "P7.4", "the entries behind one that was changed", first[i+1:], i+1, bodies[i+1:]...)
			same(t, "P7.4", "an earlier result", second, 0, bodies...)
		}
		first = first[:cap(first)]
		clear(first)
		if !bytes.Equal(whole(t, d), before) {
			t.Error("P7.4: what Open returns is the disk's memory")
		}
		same(t, "P7.4", "another result", second, 0, bodies...)
		holds(t, "P7.4", "a further Open", d, 0, 14, 0, bodies...)
		appends(t, l, []byte("x"))
		same(t, "P7.4", "a result behind an Append", second, 0, bodies...)
		holds(t, "P7.4", "a further Open", d, 0, 14, 0, append(slices.Clone(bodies), []byte("x"))...)
		// What was read stays when the region is written anew.
		resets(t, l, 10, api.OK)
		appends(t, l, noise(9, 500))
		same(t, "P7.4", "a result behind a Reset", second, 0, bodies...)
	}
}
