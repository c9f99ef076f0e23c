package disk

import (
	"bytes"
	"fmt"
	"math"
	"math/rand"
	"slices"
	"testing"

	"pentimento/api"
)

// --- bytes and disks

// noise are n bytes, none of them zero, which hang on the seed.
func noise(seed, n int) []byte {
	b := make([]byte, n)
	for i := range b {
		b[i] = byte(1 + (seed*89+i*7+i/64*31)%255)
	}
	return b
}

// padded are all bs, each with zeros behind it to the end of its last sector.
func padded(bs ...[]byte) []byte {
	var all []byte
	for _, b := range bs {
		all = append(all, b...)
		for len(all)%64 != 0 {
			all = append(all, 0)
		}
	}
	return all
}

// blank are the bytes of n sectors that nobody has written.
func blank(n int) []byte { return make([]byte, 64*n) }

// made is a new disk of n sectors.
func made(t *testing.T, n int) *Disk {
	t.Helper()
	d, e := New(n)
	if d == nil || e != api.OK {
		t.Fatalf("P6.1: New(%d) = %v, %d", n, d, e)
	}
	return d
}

// writes writes, and asks that it works.
func writes(t *testing.T, d *Disk, at int, b []byte) {
	t.Helper()
	if e := d.Write(at, b); e != api.OK {
		t.Fatalf("P6.2: Write(%d, %d bytes) = %d, want OK", at, len(b), e)
	}
}

// syncs synchronizes, and asks that it works and that nothing is pending then.
func syncs(t *testing.T, d *Disk) {
	t.Helper()
	if e := d.Sync(); e != api.OK {
		t.Fatalf("P6.2: Sync() = %d, want OK", e)
	}
	waits(t, d, 0)
}

// waits asks how many writes are pending.
func waits(t *testing.T, d *Disk, want int) {
	t.Helper()
	if got := d.Waiting(); got != want {
		t.Errorf("P6.2: Waiting() = %d, want %d", got, want)
	}
}

// crashes lets d crash, asks how many writes are performed, and that nothing is pending then.
func crashes(t *testing.T, d *Disk, want int, keep ...int) {
	t.Helper()
	if got := d.Crash(keep...); got != want {
		t.Errorf("P6.4: Crash(%v) = %d, want %d", keep, got, want)
	}
	waits(t, d, 0)
}

// holds asks what the sectors from at on have; it is one call.
func holds(t *testing.T, promise string, d *Disk, at int, want []byte) {
	t.Helper()
	got, e := d.Read(at, len(want)/64)
	if e != api.OK {
		t.Errorf("%s: Read(%d, %d) = %d, want OK", promise, at, len(want)/64, e)
	}
	if len(got) != len(want) {
		t.Fatalf("%s: Read(%d, %d) = %d bytes", promise, at, len(want)/64, len(got))
	}
	for i := range want {
		if got[i] != want[i] {
			t.Errorf("%s: Read(%d, %d): byte %d is %d, want %d", promise, at, len(want)/64, i, got[i], want[i])
			return
		}
	}
}

// refuses asks that Read returns nothing and that error.
func refuses(t *testing.T, promise string, d *Disk, at, n int, want api.Errno) {
	t.Helper()
	if b, e := d.Read(at, n); len(b) != 0 || e != want {
		t.Errorf("%s: Read(%d, %d) = %d bytes, %d, want nothing, %d", promise, at, n, len(b), e, want)
	}
}

// isOff asks that no call works.
func isOff(t *testing.T, promise string, d *Disk) {
	t.Helper()
	if e := d.Write(0, []byte{1}); e != api.ErrOff {
		t.Errorf("%s: Write with the power off = %d", promise, e)
	}
	refuses(t, promise, d, 0, 1, api.ErrOff)
	if e := d.Sync(); e != api.ErrOff {
		t.Errorf("%s: Sync with the power off = %d", promise, e)
	}
}

// isOn asks that many calls work.
func isOn(t *testing.T, promise string, d *Disk) {
	t.Helper()
	for i := range 2000 {
		if _, e := d.Read(0, 1); e != api.OK {
			t.Fatalf("%s: call %d with the power on = %d", promise, i, e)
		}
	}
}

// --- P6.1: New, Size

func TestNumbersOfSectorsThatAreNone(t *testing.T) {
	for _, n := range []int{0, -1, -2, -64, -65536, 65537, 65538, 131072, 1 << 31, 1 << 58, 1<<58 + 1, math.MaxInt, math.MinInt, math.MinInt + 1} {
		if d, e := New(n); d != nil || e != api.ErrArg {
			t.Errorf("P6.1: New(%d) = %v, %d, want nil, ErrArg", n, d != nil, e)
		}
	}
}

func TestNumbersOfSectors(t *testing.T) {
	for _, n := range []int{1, 2, 3, 63, 64, 65, 1000, 65535, 65536} {
		d := made(t, n)
		if d.Size() != n {
			t.Errorf("P6.1: the Size of New(%d) = %d", n, d.Size())
		}
		holds(t, "P6.1", d, 0, blank(n))
		waits(t, d, 0)
		isOn(t, "P6.3", d)
		writes(t, d, n-1, noise(1, 64))
		holds(t, "P6.1", d, n-1, noise(1, 64))
		if e := d.Write(n, []byte{1}); e != api.ErrArg {
			t.Errorf("P6.1: Write to sector %d of New(%d) = %d", n, n, e)
		}
	}
}

func TestSizeStays(t *testing.T) {
	d := made(t, 3)
	for range 3 {
		d.Write(0, noise(1, 192))
		d.Write(0, noise(1, 193))
		d.Sync()
		d.Limit(0)
		if d.Size() != 3 {
			t.Errorf("P6.1: Size() = %d with the power off, want 3", d.Size())
		}
		d.Crash(0)
		if d.Size() != 3 {
			t.Errorf("P6.1: Size() = %d after a crash, want 3", d.Size())
		}
	}
}

// --- P6.2: Write and Read

func TestExample(t *testing.T) {
	a, b := noise(1, 64), noise(2, 128)
	d := made(t, 4)
	writes(t, d, 0, a)
	syncs(t, d)
	writes(t, d, 0, b)
	crashes(t, d, 1, 1)
	holds(t, "P6.4", d, 0, padded(a, b[64:], blank(2)))
}

func TestWriteOfNothing(t *testing.T) {
	d := made(t, 2)
	writes(t, d, 1, noise(1, 64))
	for _, at := range []int{0, 1, 2, 3, -1, math.MaxInt, math.MinInt} {
		for _, b := range [][]byte{nil, {}, make([]byte, 0, 64), noise(2, 64)[:0]} {
			if e := d.Write(at, b); e != api.ErrArg {
				t.Errorf("P6.2: Write(%d) of nothing = %d, want ErrArg", at, e)
			}
		}
	}
	waits(t, d, 1)
	holds(t, "P6.2", d, 0, padded(blank(1), noise(1, 64)))
}

func TestWriteOfEveryLength(t *testing.T) {
	const size = 4
	for at := range size {
		room := (size - at) * 64
		for n := 1; n <= room+130; n++ {
			d := made(t, size)
			// Other bytes stand there ahead, so the zeros behind the last piece must be written.
			writes(t, d, 0, noise(1, size*64))
			syncs(t, d)
			want := noise(1, size*64)
			e := d.Write(at, noise(2, n))
			if n > room {
				if e != api.ErrArg {
					t.Errorf("P6.2: Write(%d, %d bytes) = %d, want ErrArg", at, n, e)
				}
				waits(t, d, 0)
				holds(t, "P6.2", d, 0, want)
				continue
			}
			if e != api.OK {
				t.Errorf("P6.2: Write(%d, %d bytes) = %d, want OK", at, n, e)
			}
			copy(want[at*64:], padded(noise(2, n)))
			waits(t, d, len(padded(noise(2, n)))/64)
			holds(t, "P6.2", d, 0, want)
			syncs(t, d)
			holds(t, "P6.2", d, 0, want)
		}
	}
}

func TestPlacesOfWrites(t *testing.T) {
	for _, size := range []int{1, 2, 5} {
		d := made(t, size)
		for _, at := range []int{-1, -2, -size, -64, size, size + 1, 2 * size, 64, 65536, 1 << 31, 1 << 58, 1<<58 - 1, 1 << 62, math.MaxInt - 1, math.MaxInt, math.MinInt, math.MinInt + 1} {
			for _, n := range []int{1, 64, 65, size * 64} {
				if e := d.Write(at, noise(1, n)); e != api.ErrArg {
					t.Errorf("P6.2: Write(%d, %d bytes) of %d sectors = %d, want ErrArg", at, n, size, e)
				}
			}
		}
		waits(t, d, 0)
		holds(t, "P6.2", d, 0, blank(size))
		writes(t, d, size-1, []byte{7})
		holds(t, "P6.2", d, 0, padded(blank(size-1), []byte{7}))
	}
}

func TestRangesOfReads(t *testing.T) {
	for _, size := range []int{1, 2, 5} {
		d := made(t, size)
		all := noise(3, size*64)
		writes(t, d, 0, all)
		numbers := []int{-64, 64, 65536, 1 << 31, 1 << 57, 1 << 58, 1 << 62, math.MaxInt - 1, math.MaxInt, math.MinInt, math.MinInt + 1, math.MinInt + size}
		for n := -2; n <= 2*size+2; n++ {
			numbers = append(numbers, n)
		}
		for _, at := range numbers {
			for _, n := range numbers {
				if at >= 0 && at < size && n >= 1 && n <= size && at+n <= size {
					holds(t, "P6.2", d, at, all[at*64:(at+n)*64])
				} else {
					refuses(t, "P6.2", d, at, n, api.ErrArg)
				}
			}
		}
		waits(t, d, size)
	}
}

func TestReadOfPendingWrites(t *testing.T) {
	d := made(t, 5)
	writes(t, d, 0, noise(1, 320))
	syncs(t, d)
	want := noise(1, 320)
	// Each sees those ahead of it, and only its own sectors.
	for i, w := range []struct{ at, n int }{{1, 64}, {1, 1}, {1, 63}, {3, 128}, {0, 65}, {2, 64}, {2, 64}, {4, 2}, {0, 320}, {1, 130}} {
		b := noise(i+2, w.n)
		writes(t, d, w.at, b)
		copy(want[w.at*64:], padded(b))
		for at := range 5 {
			for n := 1; n <= 5-at; n++ {
				holds(t, "P6.2", d, at, want[at*64:(at+n)*64])
			}
		}
	}
	waits(t, d, 1+1+1+2+2+1+1+1+5+3)
	syncs(t, d)
	holds(t, "P6.2", d, 0, want)
}

func TestReadOfPartsThatArePending(t *testing.T) {
	d := made(t, 4)
	writes(t, d, 0, noise(1, 256))
	syncs(t, d)
	writes(t, d, 1, []byte("abc"))
	holds(t, "P6.2", d, 0, padded(noise(1, 256)[:64], []byte("abc"), noise(1, 256)[128:]))
	holds(t, "P6.2", d, 0, noise(1, 64))
	holds(t, "P6.2", d, 1, padded([]byte("abc")))
	holds(t, "P6.2", d, 2, noise(1, 256)[128:])
	holds(t, "P6.2", d, 1, padded([]byte("abc"), noise(1, 256)[128:192]))
}

// --- P6.2: Sync and Waiting

func TestSync(t *testing.T) {
	d := made(t, 3)
	syncs(t, d)
	holds(t, "P6.2", d, 0, blank(3))
	writes(t, d, 0, noise(1, 100))
	writes(t, d, 1, noise(2, 100))
	waits(t, d, 4)
	want := padded(noise(1, 64), noise(2, 100))
	holds(t, "P6.2", d, 0, want)
	waits(t, d, 4)
	syncs(t, d)
	holds(t, "P6.2", d, 0, want)
	syncs(t, d)
	holds(t, "P6.2", d, 0, want)
	crashes(t, d, 0)
	holds(t, "P6.5", d, 0, want)
}

func TestSyncOfSeveralWritesToOneSector(t *testing.T) {
	d := made(t, 2)
	for i := range 10 {
		writes(t, d, 1, noise(i, 64-i))
	}
	waits(t, d, 10)
	syncs(t, d)
	crashes(t, d, 0, 0, 1, 2, 3)
	holds(t, "P6.2", d, 0, padded(blank(1), noise(9, 55)))
}

func TestWaitingOfEveryWrite(t *testing.T) {
	d := made(t, 10)
	want := 0
	for n := 1; n <= 640; n++ {
		writes(t, d, 0, noise(n, n))
		want += (n + 63) / 64
		waits(t, d, want)
	}
	syncs(t, d)
	writes(t, d, 0, noise(1, 640))
	waits(t, d, 10)
}

// --- P6.2, P6.3: errors, and which comes first

func TestWrongArgumentsWithThePowerOff(t *testing.T) {
	d := made(t, 3)
	writes(t, d, 0, noise(1, 64))
	d.Limit(0)
	for _, at := range []int{-1, 3, 4, math.MaxInt, math.MinInt} {
		if e := d.Write(at, []byte{1}); e != api.ErrArg {
			t.Errorf("P6.2: Write(%d) with the power off = %d, want ErrArg", at, e)
		}
		refuses(t, "P6.2", d, at, 1, api.ErrArg)
	}
	for at := range 3 {
		for _, b := range [][]byte{nil, {}, make([]byte, (3-at)*64+1)} {
			if e := d.Write(at, b); e != api.ErrArg {
				t.Errorf("P6.2: Write(%d, %d bytes) with the power off = %d, want ErrArg", at, len(b), e)
			}
		}
		if e := d.Write(at, make([]byte, (3-at)*64)); e != api.ErrOff {
			t.Errorf("P6.2: Write(%d) of all with the power off = %d, want ErrOff", at, e)
		}
		for _, n := range []int{0, -1, 4 - at, 4, math.MaxInt, math.MinInt} {
			refuses(t, "P6.2", d, at, n, api.ErrArg)
		}
		refuses(t, "P6.2", d, at, 3-at, api.ErrOff)
	}
	isOff(t, "P6.2", d)
	waits(t, d, 1)
}

// --- P6.3: Limit

// calls are the calls that count, on a disk of at least two sectors.
func calls() map[string]func(d *Disk) api.Errno {
	return map[string]func(d *Disk) api.Errno{
		"Write":           func(d *Disk) api.Errno { return d.Write(1, []byte{1}) },
		"Write of two":    func(d *Disk) api.Errno { return d.Write(0, noise(1, 128)) },
		"Write of a part": func(d *Disk) api.Errno { return d.Write(0, noise(1, 65)) },
		"Read":            func(d *Disk) api.Errno { _, e := d.Read(1, 1); return e },
		"Read of two":     func(d *Disk) api.Errno { _, e := d.Read(0, 2); return e },
		"Sync":            func(d *Disk) api.Errno { return d.Sync() },
	}
}

func TestCallsThatCount(t *testing.T) {
	for name, call := range calls() {
		for limit := range 10 {
			d := made(t, 2)
			d.Limit(limit)
			for i := range limit {
				if e := call(d); e != api.OK {
					t.Errorf("P6.3: %s, call %d of %d, = %d, want OK", name, i, limit, e)
				}
			}
			if e := call(d); e != api.ErrOff {
				t.Errorf("P6.3: %s behind %d calls = %d, want ErrOff", name, limit, e)
			}
			isOff(t, "P6.3", d)
		}
	}
}

func TestAllKindsOfCallsCountTogether(t *testing.T) {
	for first, one := range calls() {
		for second, two := range calls() {
			d := made(t, 2)
			d.Limit(2)
			if one(d) != api.OK || two(d) != api.OK {
				t.Errorf("P6.3: %s and %s, within the limit, fail", first, second)
			}
			isOff(t, "P6.3", d)
		}
	}
}

func TestCallsThatDoNotCount(t *testing.T) {
	d := made(t, 2)
	d.Limit(2)
	for range 10 {
		d.Write(0, nil)
		d.Write(-1, []byte{1})
		d.Write(2, []byte{1})
		d.Write(1, noise(1, 65))
		d.Read(0, 0)
		d.Read(0, 3)
		d.Read(-1, 1)
		d.Read(2, 1)
		d.Read(1, math.MaxInt)
		d.Size()
		d.Waiting()
	}
	writes(t, d, 0, []byte{5})
	d.Write(0, nil)
	d.Read(0, 0)
	holds(t, "P6.3", d, 0, padded([]byte{5}))
	isOff(t, "P6.3", d)
}

func TestNoLimit(t *testing.T) {
	for _, limit := range []int{-1, -2, -100, math.MinInt, math.MinInt + 1, math.MaxInt} {
		d := made(t, 1)
		d.Limit(limit)
		isOn(t, "P6.3", d)
	}
}

func TestLimitsAreReplaced(t *testing.T) {
	for first := -2; first <= 5; first++ {
		for second := -2; second <= 5; second++ {
			for between := range 4 {
				d := made(t, 1)
				d.Limit(first)
				for range between {
					d.Sync()
				}
				d.Limit(second)
				off := first >= 0 && between >= first
				for i := range 10 {
					e := d.Sync()
					if want := off || second >= 0 && i >= second; want != (e == api.ErrOff) {
						t.Errorf("P6.3: Limit(%d), %d calls, Limit(%d), %d calls, then %d", first, between, second, i, e)
					}
				}
			}
		}
	}
}

func TestLimitWithThePowerOff(t *testing.T) {
	for _, limit := range []int{0, 1, 5, 1000, math.MaxInt, -1, math.MinInt} {
		d := made(t, 1)
		d.Limit(0)
		isOff(t, "P6.3", d)
		d.Limit(limit)
		isOff(t, "P6.3", d)
		crashes(t, d, 0)
		// It has no effect later, either.
		isOn(t, "P6.3", d)
	}
}

func TestCallsWithThePowerOffHaveNoEffect(t *testing.T) {
	d := made(t, 3)
	writes(t, d, 0, noise(1, 192))
	syncs(t, d)
	writes(t, d, 1, noise(2, 128))
	d.Limit(1)
	writes(t, d, 2, noise(3, 64))
	for range 3 {
		isOff(t, "P6.3", d)
		if e := d.Write(0, noise(4, 192)); e != api.ErrOff {
			t.Errorf("P6.3: Write with the power off = %d", e)
		}
		refuses(t, "P6.3", d, 0, 3, api.ErrOff)
		waits(t, d, 3)
	}
	// Nothing was written, synchronized or lost.
	crashes(t, d, 2, 0, 2, 3, 4, 5)
	holds(t, "P6.3", d, 0, padded(noise(1, 64), noise(2, 64), noise(3, 64)))
}

func TestWriteAtTheLimitIsWhole(t *testing.T) {
	d := made(t, 4)
	d.Limit(1)
	writes(t, d, 0, noise(1, 256))
	isOff(t, "P6.3", d)
	waits(t, d, 4)
	crashes(t, d, 4, 0, 1, 2, 3)
	holds(t, "P6.3", d, 0, noise(1, 256))
}

// --- P6.4: Crash

// pend is a disk of four sectors that have noise(1), and where six writes are pending, and what each of them writes.
func pend(t *testing.T) (*Disk, []write) {
	t.Helper()
	d := made(t, 4)
	writes(t, d, 0, noise(1, 256))
	syncs(t, d)
	writes(t, d, 1, noise(2, 130))
	writes(t, d, 3, noise(3, 64))
	writes(t, d, 0, noise(4, 1))
	writes(t, d, 1, noise(5, 64))
	waits(t, d, 6)
	var ws []write
	all := padded(noise(2, 130), noise(3, 64), noise(4, 1), noise(5, 64))
	for i, at := range []int{1, 2, 3, 3, 0, 1} {
		ws = append(ws, write{at, sector(all[i*64 : i*64+64])})
	}
	return d, ws
}

// survives asks that of the writes of pend those whose numbers are in keep are performed, and only these.
func survives(t *testing.T, keep ...int) {
	t.Helper()
	d, ws := pend(t)
	want, performed := noise(1, 256), 0
	for i, w := range ws {
		if slices.Contains(keep, i) {
			copy(want[w.at*64:], w.data[:])
			performed++
		}
	}
	crashes(t, d, performed, keep...)
	holds(t, "P6.4", d, 0, want)
	syncs(t, d)
	crashes(t, d, 0, 0, 1, 2, 3, 4, 5)
	holds(t, "P6.5", d, 0, want)
}

func TestCrashOfNoNumbers(t *testing.T) {
	survives(t)
	survives(t, []int{}...)
}

func TestCrashOfEveryChoice(t *testing.T) {
	for choice := range 1 << 6 {
		var keep []int
		for i := range 6 {
			if choice>>i&1 == 1 {
				keep = append(keep, i)
			}
		}
		survives(t, keep...)
		slices.Reverse(keep)
		survives(t, keep...)
		survives(t, slices.Concat(keep, keep)...)
		survives(t, slices.Concat([]int{-1, 6}, keep, []int{7, -6, math.MaxInt, math.MinInt})...)
	}
}

func TestCrashOfNumbersInAnyOrder(t *testing.T) {
	// 0 and 5 write to one sector, as 2 and 3 do: the last write counts, not the last number.
	survives(t, 5, 0)
	survives(t, 3, 2)
	survives(t, 3, 0, 5, 2)
	survives(t, 5, 4, 3, 2, 1, 0)
	survives(t, 2, 4, 0, 1, 5, 3)
}

func TestCrashOfRepeatedNumbers(t *testing.T) {
	survives(t, 0, 0)
	survives(t, 5, 5, 5, 5, 5, 5, 5)
	survives(t, 0, 5, 0)
	survives(t, 2, 3, 2, 3, 2)
	survives(t, slices.Repeat([]int{1, 4}, 10000)...)
}

func TestCrashOfNumbersThatNoWriteHas(t *testing.T) {
	for _, n := range []int{-1, -2, -5, -6, -7, 6, 7, 64, 256, 1 << 32, 1<<32 + 1, math.MaxInt, math.MinInt, math.MinInt + 1} {
		survives(t, n)
		survives(t, n, 0)
		survives(t, 5, n, n)
	}
}

func TestCrashOfSeveralWritesToOneSector(t *testing.T) {
	for choice := range 1 << 5 {
		d := made(t, 1)
		var keep []int
		want := blank(1)
		for i := range 5 {
			writes(t, d, 0, noise(i, 60+i))
			if choice>>i&1 == 1 {
				keep = append([]int{i}, keep...)
				want = padded(noise(i, 60+i))
			}
		}
		crashes(t, d, len(keep), keep...)
		holds(t, "P6.4", d, 0, want)
	}
}

func TestNumbersBeginAgainBehindASync(t *testing.T) {
	d := made(t, 3)
	writes(t, d, 0, noise(1, 64))
	writes(t, d, 1, noise(2, 64))
	syncs(t, d)
	writes(t, d, 2, noise(3, 64))
	writes(t, d, 0, noise(4, 64))
	crashes(t, d, 1, 0, 2, 3)
	holds(t, "P6.4", d, 0, padded(noise(1, 64), noise(2, 64), noise(3, 64)))
	// And behind a crash.
	writes(t, d, 1, noise(5, 64))
	writes(t, d, 2, noise(6, 64))
	crashes(t, d, 1, 0)
	holds(t, "P6.4", d, 0, padded(noise(1, 64), noise(5, 64), noise(3, 64)))
}

func TestCrashWithoutPendingWrites(t *testing.T) {
	d := made(t, 2)
	crashes(t, d, 0)
	crashes(t, d, 0, 0)
	crashes(t, d, 0, -1, 0, 1, 2)
	holds(t, "P6.4", d, 0, blank(2))
	writes(t, d, 0, noise(1, 128))
	syncs(t, d)
	for range 5 {
		crashes(t, d, 0, 0, 1)
		holds(t, "P6.4", d, 0, noise(1, 128))
	}
}

func TestCrashesInARow(t *testing.T) {
	d := made(t, 2)
	writes(t, d, 0, noise(1, 128))
	crashes(t, d, 1, 1)
	// The other write is lost for good.
	crashes(t, d, 0, 0, 1)
	crashes(t, d, 0, 0)
	holds(t, "P6.4", d, 0, padded(blank(1), noise(1, 128)[64:]))
	for i := range 20 {
		writes(t, d, 0, noise(i, 64))
		writes(t, d, 1, noise(i+1, 64))
		crashes(t, d, 1, i%2)
		crashes(t, d, 0, 0, 1)
		if i%2 == 0 {
			holds(t, "P6.4", d, 0, noise(i, 64))
		} else {
			holds(t, "P6.4", d, 1, noise(i+1, 64))
		}
	}
}

func TestCrashTurnsThePowerOn(t *testing.T) {
	for _, limit := range []int{0, 1, 2, 3} {
		d := made(t, 2)
		writes(t, d, 0, noise(1, 64))
		d.Limit(limit)
		for range limit {
			writes(t, d, 1, noise(2, 64))
		}
		isOff(t, "P6.3", d)
		waits(t, d, 1+limit)
		crashes(t, d, 1, 0)
		isOn(t, "P6.4", d)
		holds(t, "P6.4", d, 0, padded(noise(1, 64), blank(1)))
		writes(t, d, 1, noise(3, 64))
		syncs(t, d)
		// A limit after the crash counts anew.
		d.Limit(1)
		holds(t, "P6.4", d, 1, noise(3, 64))
		isOff(t, "P6.4", d)
	}
}

func TestCrashRemovesTheLimit(t *testing.T) {
	for limit := 1; limit <= 5; limit++ {
		for between := range limit {
			d := made(t, 1)
			d.Limit(limit)
			for range between {
				d.Sync()
			}
			crashes(t, d, 0)
			isOn(t, "P6.4", d)
		}
	}
}

func TestCrashIsNoCall(t *testing.T) {
	d := made(t, 1)
	d.Limit(0)
	crashes(t, d, 0)
	d.Limit(1)
	d.Size()
	d.Waiting()
	if e := d.Sync(); e != api.OK {
		t.Errorf("P6.3: the first call = %d", e)
	}
	isOff(t, "P6.3", d)
}

func TestCrashOfAWholeDisk(t *testing.T) {
	const size = api.MaxDisk
	d := made(t, size)
	writes(t, d, 0, noise(1, size*64))
	syncs(t, d)
	writes(t, d, 0, noise(2, size*64-1))
	writes(t, d, 0, noise(3, size*64))
	waits(t, d, 2*size)
	var keep []int
	for i := 2*size - 1; i >= 0; i-- {
		if i < size && i%3 == 0 || i >= size && i%3 == 1 {
			keep = append(keep, i)
		}
	}
	want, second, third := noise(1, size*64), padded(noise(2, size*64-1)), noise(3, size*64)
	for i := range size {
		if i%3 == 0 {
			copy(want[i*64:i*64+64], second[i*64:])
		}
		if (size+i)%3 == 1 {
			copy(want[i*64:i*64+64], third[i*64:])
		}
	}
	crashes(t, d, len(keep), keep...)
	holds(t, "P6.4", d, 0, want)
}

// --- P6.5: what survives

func TestSynchronizedDataSurvive(t *testing.T) {
	d := made(t, 3)
	want := blank(3)
	for i := range 30 {
		b := noise(i, 1+i*5%128)
		at := i % 2
		writes(t, d, at, b)
		copy(want[at*64:], padded(b))
		if i%3 == 0 {
			d.Limit(1)
		}
		syncs(t, d)
		d.Write(2-at, noise(99, 64))
		d.Write(at, noise(98, 64))
		for range 1 + i%3 {
			crashes(t, d, 0, -1, 5)
			holds(t, "P6.5", d, 0, want)
			d.Write(0, noise(97, 192))
			d.Limit(0)
		}
		d.Crash()
	}
}

func TestPreservedWritesSurvive(t *testing.T) {
	d := made(t, 2)
	writes(t, d, 0, noise(1, 128))
	crashes(t, d, 2, 0, 1)
	for range 5 {
		writes(t, d, 0, noise(2, 128))
		crashes(t, d, 0)
		holds(t, "P6.5", d, 0, noise(1, 128))
	}
	writes(t, d, 1, noise(3, 64))
	syncs(t, d)
	crashes(t, d, 0)
	holds(t, "P6.5", d, 0, padded(noise(1, 64), noise(3, 64)))
}

func TestTwoDisks(t *testing.T) {
	one, two := made(t, 2), made(t, 2)
	writes(t, one, 0, noise(1, 128))
	waits(t, two, 0)
	holds(t, "P6.5", two, 0, blank(2))
	writes(t, two, 1, noise(2, 64))
	syncs(t, one)
	waits(t, two, 1)
	one.Limit(0)
	isOff(t, "P6.3", one)
	isOn(t, "P6.3", two)
	two.Limit(1)
	crashes(t, one, 0, 0)
	waits(t, two, 1)
	holds(t, "P6.5", two, 0, padded(blank(1), noise(2, 64)))
	isOff(t, "P6.3", two)
	isOn(t, "P6.3", one)
	holds(t, "P6.5", one, 0, noise(1, 128))
	crashes(t, two, 0)
	holds(t, "P6.5", two, 0, blank(2))
	holds(t, "P6.5", one, 0, noise(1, 128))
}

// --- P6.5: memory

func TestReadIsNewMemory(t *testing.T) {
	for _, sync := range []bool{false, true} {
		for _, n := range []int{1, 2, 3} {
			d := made(t, 3)
			writes(t, d, 0, noise(1, 192))
			if sync {
				syncs(t, d)
			}
			first, _ := d.Read(0, n)
			second, _ := d.Read(0, n)
			first = first[:cap(first)]
			for i := range first {
				first[i] = '#'
			}
			if !bytes.Equal(second, noise(1, 64*n)) {
				t.Errorf("P6.5: two results of Read(0, %d) share memory", n)
			}
			holds(t, "P6.5", d, 0, noise(1, 192))
			syncs(t, d)
			holds(t, "P6.5", d, 0, noise(1, 192))
			crashes(t, d, 0)
			holds(t, "P6.5", d, 0, noise(1, 192))
		}
	}
}

func TestWhatWasReadStays(t *testing.T) {
	d := made(t, 2)
	writes(t, d, 0, noise(1, 128))
	pending, _ := d.Read(0, 2)
	syncs(t, d)
	durable, _ := d.Read(0, 2)
	writes(t, d, 0, noise(2, 128))
	syncs(t, d)
	writes(t, d, 0, noise(3, 128))
	crashes(t, d, 2, 0, 1)
	if !bytes.Equal(pending, noise(1, 128)) || !bytes.Equal(durable, noise(1, 128)) {
		t.Error("P6.5: a later call changed what Read returned")
	}
}

func TestWriteNeitherChangesNorKeepsItsArgument(t *testing.T) {
	for n := 1; n <= 192; n++ {
		d := made(t, 3)
		all := append(noise(1, n), bytes.Repeat([]byte("spare"), 40)...)
		before := slices.Clone(all)
		writes(t, d, 0, all[:n])
		want := padded(noise(1, n))
		holds(t, "P6.5", d, 0, want)
		if !bytes.Equal(all, before) {
			t.Fatalf("P6.5: Write changed its argument of %d bytes or its spare capacity", n)
		}
		clear(all)
		holds(t, "P6.5", d, 0, want)
		waiting := d.Waiting()
		switch n % 3 {
		case 0:
			syncs(t, d)
		case 1:
			crashes(t, d, waiting, 0, 1, 2)
		}
		for i := range all {
			all[i] = '#'
		}
		holds(t, "P6.5", d, 0, want)
		syncs(t, d)
		copy(all, before)
		d.Read(0, 3)
		if !bytes.Equal(all, before) {
			t.Fatalf("P6.5: a call after Write changed the argument of %d bytes", n)
		}
	}
}

func TestOneBufferForAllWrites(t *testing.T) {
	d := made(t, 3)
	buffer := make([]byte, 64)
	for i := range 3 {
		copy(buffer, noise(i, 64))
		writes(t, d, i, buffer)
	}
	clear(buffer)
	crashes(t, d, 3, 0, 1, 2)
	holds(t, "P6.5", d, 0, padded(noise(0, 64), noise(1, 64), noise(2, 64)))
}

func TestCrashNeitherChangesNorKeepsItsArgument(t *testing.T) {
	d, _ := pend(t)
	all := []int{5, -1, 2, 2, 9, 0, 7, 7, 7}
	before := slices.Clone(all)
	crashes(t, d, 3, all[:6]...)
	want, _ := d.Read(0, 4)
	if !slices.Equal(all, before) {
		t.Errorf("P6.5: Crash made %v of %v", all, before)
	}
	for i := range all {
		all[i] = i % 6
	}
	holds(t, "P6.5", d, 0, want)
	writes(t, d, 0, noise(9, 64))
	crashes(t, d, 0)
	holds(t, "P6.5", d, 0, want)
}

// --- all of it, beside a slow disk by the chapter's words

// model is a slow disk: the writes that are durable, and those that are pending, from the first one on.
type model struct {
	size             int
	durable, pending []write
	off              bool
	limit            int // negative: none
}

// counts tells whether a call has an effect, and counts it.
func (m *model) counts() bool {
	if m.off {
		return false
	}
	if m.limit > 0 {
		m.limit--
		m.off = m.limit == 0
	}
	return true
}

// write tells what Write does.
func (m *model) write(at int, b []byte) api.Errno {
	if len(b) == 0 || at < 0 || at >= m.size || len(padded(b))/64 > m.size-at {
		return api.ErrArg
	}
	if !m.counts() {
		return api.ErrOff
	}
	for i := 0; i < len(b); i += 64 {
		m.pending = append(m.pending, write{at + i/64, sector(padded(b)[i : i+64])})
	}
	return api.OK
}

// read tells what Read does.
func (m *model) read(at, n int) ([]byte, api.Errno) {
	if n < 1 || at < 0 || at >= m.size || n > m.size || at+n > m.size {
		return nil, api.ErrArg
	}
	if !m.counts() {
		return nil, api.ErrOff
	}
	all := blank(m.size)
	for _, w := range slices.Concat(m.durable, m.pending) {
		copy(all[w.at*64:], w.data[:])
	}
	return all[at*64 : (at+n)*64], api.OK
}

// sync tells what Sync does.
func (m *model) sync() api.Errno {
	if !m.counts() {
		return api.ErrOff
	}
	m.durable, m.pending = append(m.durable, m.pending...), nil
	return api.OK
}

// bound does what Limit does.
func (m *model) bound(n int) {
	if !m.off {
		m.limit, m.off = n, n == 0
	}
}

// crash tells what Crash does.
func (m *model) crash(keep []int) int {
	n := len(m.durable)
	for i, w := range m.pending {
		if slices.Contains(keep, i) {
			m.durable = append(m.durable, w)
		}
	}
	m.pending, m.off, m.limit = nil, false, -1
	return len(m.durable) - n
}

// both is a disk, and its model, and what was done to them.
type both struct {
	d    *Disk
	m    *model
	done []string
}

// pair is a new disk and its model.
func pair(t *testing.T, size int) *both {
	return &both{d: made(t, size), m: &model{size: size, limit: -1}}
}

// agree asks that two results are the same, and that as many writes are pending.
func (x *both) agree(t *testing.T, promise, what string, got, want any) {
	t.Helper()
	x.done = append(x.done, what)
	if fmt.Sprint(got) != fmt.Sprint(want) {
		t.Fatalf("%s: of %d sectors after %v: %.300v, want %.300v", promise, x.m.size, x.done, got, want)
	}
	if x.d.Waiting() != len(x.m.pending) || x.d.Size() != x.m.size {
		t.Fatalf("P6.2: of %d sectors after %v: %d pending, %d sectors, want %d pending", x.m.size, x.done, x.d.Waiting(), x.d.Size(), len(x.m.pending))
	}
}

func (x *both) write(t *testing.T, at int, b []byte) {
	x.agree(t, "P6.2", fmt.Sprintf("Write(%d, %d)", at, len(b)), x.d.Write(at, b), x.m.write(at, b))
}

func (x *both) read(t *testing.T, at, n int) {
	got, e := x.d.Read(at, n)
	want, f := x.m.read(at, n)
	x.agree(t, "P6.2", fmt.Sprintf("Read(%d, %d)", at, n), append(got, byte(e)), append(want, byte(f)))
}

func (x *both) sync(t *testing.T) { x.agree(t, "P6.2", "Sync()", x.d.Sync(), x.m.sync()) }

func (x *both) limit(t *testing.T, n int) {
	x.d.Limit(n)
	x.m.bound(n)
	x.agree(t, "P6.3", fmt.Sprintf("Limit(%d)", n), 0, 0)
}

func (x *both) crash(t *testing.T, keep ...int) {
	x.agree(t, "P6.4", fmt.Sprintf("Crash(%v)", keep), x.d.Crash(keep...), x.m.crash(keep))
}

// steps are what TestAllShortScripts does to a disk of three sectors; the bytes of a Write hang on its place i.
func steps() []func(t *testing.T, x *both, i int) {
	return []func(t *testing.T, x *both, i int){
		func(t *testing.T, x *both, i int) { x.write(t, 0, noise(i, 3)) },
		func(t *testing.T, x *both, i int) { x.write(t, 0, noise(i, 128)) },
		func(t *testing.T, x *both, i int) { x.write(t, 1, noise(i, 65)) },
		func(t *testing.T, x *both, i int) { x.write(t, 2, noise(i, 65)) },
		func(t *testing.T, x *both, i int) { x.read(t, 0, 3) },
		func(t *testing.T, x *both, i int) { x.read(t, 2, 2) },
		func(t *testing.T, x *both, i int) { x.sync(t) },
		func(t *testing.T, x *both, i int) { x.limit(t, 0) },
		func(t *testing.T, x *both, i int) { x.limit(t, 1) },
		func(t *testing.T, x *both, i int) { x.limit(t, 2) },
		func(t *testing.T, x *both, i int) { x.limit(t, -1) },
		func(t *testing.T, x *both, i int) { x.crash(t) },
		func(t *testing.T, x *both, i int) { x.crash(t, 0) },
		func(t *testing.T, x *both, i int) { x.crash(t, 2, 1, 2, -1) },
	}
}

// TestAllShortScripts does all sequences of four steps, and looks at the end what is there, with what is pending and
// without it.
func TestAllShortScripts(t *testing.T) {
	all := steps()
	const length = 4
	total := 1
	for range length {
		total *= len(all)
	}
	for script := range total {
		x := pair(t, 3)
		for i, rest := 0, script; i < length; i, rest = i+1, rest/len(all) {
			all[rest%len(all)](t, x, i)
		}
		x.read(t, 0, 3)
		x.crash(t, 1)
		x.read(t, 0, 3)
	}
}

func TestRandomScripts(t *testing.T) {
	random := rand.New(rand.NewSource(1))
	for range 3000 {
		size := 1 + random.Intn(8)
		x := pair(t, size)
		for i := range 60 {
			at := random.Intn(size+2) - 1
			switch random.Intn(10) {
			case 0, 1, 2, 3:
				x.write(t, at, noise(i, random.Intn(size*64+10)))
			case 4, 5:
				x.read(t, at, random.Intn(size+2))
			case 6:
				x.read(t, 0, size)
			case 7:
				x.sync(t)
			case 8:
				x.limit(t, random.Intn(12)-1)
			case 9:
				var keep []int
				for range random.Intn(8) {
					keep = append(keep, random.Intn(12)-2)
				}
				x.crash(t, keep...)
			}
		}
		x.crash(t, random.Perm(len(x.m.pending)+3)...)
		x.read(t, 0, size)
	}
}
