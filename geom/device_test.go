package geom

import (
	"bytes"
	"math"
	"slices"
	"testing"

	"fusee/api"
	"fusee/nvm"
)

// made returns a new device of n lines.
func made(t *testing.T, n int) *nvm.Dev {
	t.Helper()
	d, e := nvm.New(n)
	if e != api.OK {
		t.Fatalf("New(%d): %d", n, e)
	}
	return d
}

// formatted returns a device of n lines on which Format was called.
func formatted(t *testing.T, n int) *nvm.Dev {
	t.Helper()
	d := made(t, n)
	if e := Format(d); e != api.OK {
		t.Fatalf("Format of %d lines: %d", n, e)
	}
	return d
}

// opens fails the test if Open does not answer v and e.
func opens(t *testing.T, what string, d *nvm.Dev, v uint64, e api.Errno) {
	t.Helper()
	if gotV, gotE := Open(d); gotV != v || gotE != e {
		t.Errorf("%s: Open = %d, %d, want %d, %d", what, gotV, gotE, v, e)
	}
}

// lineIs fails the test if a copy of the line that read returns is not want.
func lineIs(t *testing.T, what string, read func(int) ([]byte, api.Errno), line int, want []byte) {
	t.Helper()
	if b, e := read(line); e != api.OK || !bytes.Equal(b, want) {
		t.Errorf("%s: line %d is %x, %d, want %x", what, line, b, e, want)
	}
}

func TestP4_3_FormatOfEveryDevice(t *testing.T) {
	for lines := 1; lines <= api.MaxLines; lines++ {
		d := made(t, lines)
		e := Format(d)
		if lines < 10 {
			if e != api.ErrRange || d.Counts() != (api.Counts{}) || len(d.Loose()) != 0 || len(d.Way()) != 0 {
				t.Errorf("Format of %d lines: %d, %v", lines, e, d.Counts())
			}
			opens(t, "a device too small", d, 0, api.ErrForm)
			continue
		}
		if e != api.OK || d.Counts() != (api.Counts{Stores: 2, Flushes: 2, Fences: 1}) {
			t.Errorf("Format of %d lines: %d, %v", lines, e, d.Counts())
		}
		if len(d.Loose()) != 0 || len(d.Way()) != 0 {
			t.Errorf("Format of %d lines leaves %v loose, %v on their way", lines, d.Loose(), d.Way())
		}
		for line := range lines {
			want := make([]byte, 64)
			switch line {
			case 0:
				want = superBytes(uint32(lines))
			case 1:
				want = clockBytes(0)
			}
			lineIs(t, "Load", d.Load, line, want)
			lineIs(t, "Durable", d.Durable, line, want)
		}
		opens(t, "formatted", d, 0, api.OK)
	}
}

func TestP4_3_NoDevice(t *testing.T) {
	if e := Format(nil); e != api.ErrArg {
		t.Errorf("Format of no device: %d", e)
	}
	opens(t, "no device", nil, 0, api.ErrArg)
	// A device that New did not make has no lines; nothing is promised for it but an answer.
	Format(&nvm.Dev{})
	Open(&nvm.Dev{})
}

// Format lays whole lines over what was there, leaves the other lines alone, and its fence takes what others flushed.
func TestP4_3_FormatOverOldBytes(t *testing.T) {
	d := made(t, 12)
	old := bytes.Repeat([]byte{0xab}, 64)
	for line := range 12 {
		d.Store(line, 0, old)
	}
	d.Back(0)
	d.Back(7)
	d.Flush(1)
	d.Flush(5)
	before := d.Counts()
	if e := Format(d); e != api.OK {
		t.Fatalf("Format: %d", e)
	}
	lineIs(t, "Load", d.Load, 0, superBytes(12))
	lineIs(t, "Durable", d.Durable, 0, superBytes(12))
	lineIs(t, "Load", d.Load, 1, clockBytes(0))
	lineIs(t, "Durable", d.Durable, 1, clockBytes(0))
	for line := 2; line < 12; line++ {
		lineIs(t, "Load", d.Load, line, old)
	}
	if want := []int{2, 3, 4, 6, 8, 9, 10, 11}; !slices.Equal(d.Loose(), want) || len(d.Way()) != 0 {
		t.Errorf("%v loose, %v on their way", d.Loose(), d.Way())
	}
	want := before
	want.Stores += 2
	want.Flushes += 2
	want.Fences++
	if d.Counts() != want {
		t.Errorf("counts %v, want %v", d.Counts(), want)
	}
}

func TestP4_3_FormatAgain(t *testing.T) {
	d := formatted(t, 26)
	d.Store(1, 0, Clock(9))
	opens(t, "epoch 9", d, 9, api.OK)
	if e := Format(d); e != api.OK {
		t.Errorf("Format: %d", e)
	}
	opens(t, "formatted again", d, 0, api.OK)
	if d.Counts() != (api.Counts{Stores: 5, Flushes: 4, Fences: 2}) {
		t.Errorf("counts %v", d.Counts())
	}
}

func TestP4_3_OpenChangesNothing(t *testing.T) {
	d := formatted(t, 10)
	d.Store(4, 0, []byte{1})
	d.Flush(5)
	before := d.Counts()
	opens(t, "formatted", d, 0, api.OK)
	d.Store(1, 0, []byte{0})
	opens(t, "no clock line", d, 0, api.ErrForm)
	before.Stores++
	if d.Counts() != before || !slices.Equal(d.Loose(), []int{1, 4}) || !slices.Equal(d.Way(), []int{5}) {
		t.Errorf("%v, %v loose, %v on their way", d.Counts(), d.Loose(), d.Way())
	}
}

func TestP4_3_OpenOfANumber(t *testing.T) {
	for _, v := range numbers() {
		d := formatted(t, 10)
		d.Store(1, 0, clockBytes(v))
		if v > api.MaxSeen {
			opens(t, "a number too great", d, 0, api.ErrEnd)
		} else {
			opens(t, "a number", d, v, api.OK)
		}
	}
	for v, want := range map[uint64]api.Errno{1<<60 - 1: api.OK, 1 << 60: api.OK, 1<<60 + 1: api.ErrEnd, math.MaxUint64: api.ErrEnd} {
		d := formatted(t, api.MaxLines)
		d.Store(1, 0, Clock(v))
		if got, e := Open(d); e != want || e == api.OK && got != v {
			t.Errorf("Open with the number %d = %d, %d", v, got, e)
		}
	}
}

func TestP4_3_OpenOfAnotherSuperblock(t *testing.T) {
	for lines := 10; lines <= api.MaxLines; lines++ {
		for _, other := range []int{10, lines - 1, lines + 1, lines ^ 1<<8, api.MaxLines} {
			b, e := Super(other)
			if e != api.OK || other == lines {
				continue
			}
			d := formatted(t, lines)
			d.Store(0, 0, b)
			opens(t, "a superblock for other lines", d, 0, api.ErrForm)
		}
	}
	// A device too small for a superblock of its own opens with none.
	for lines := 2; lines < 10; lines++ {
		for _, bytesOfSuper := range [][]byte{superBytes(uint32(lines)), superBytes(10)} {
			d := made(t, lines)
			d.Store(0, 0, bytesOfSuper)
			d.Store(1, 0, Clock(0))
			opens(t, "a device too small", d, 0, api.ErrForm)
		}
	}
	d := made(t, 1)
	d.Store(0, 0, superBytes(10))
	opens(t, "a device of one line", d, 0, api.ErrForm)
}

func TestP4_3_OpenWithOneByteTurned(t *testing.T) {
	for line := range 2 {
		for at := range 64 {
			d := formatted(t, 26)
			b, _ := d.Load(line)
			d.Store(line, at, []byte{b[at] ^ 0x40})
			opens(t, "one byte turned", d, 0, api.ErrForm)
		}
	}
	d := formatted(t, 26)
	super, _ := Super(26)
	d.Store(1, 0, super)
	opens(t, "a superblock in place of the clock line", d, 0, api.ErrForm)
	d.Store(0, 0, Clock(0))
	opens(t, "both lines changed", d, 0, api.ErrForm)
	d.Store(1, 0, Clock(0))
	opens(t, "a clock line in place of the superblock", d, 0, api.ErrForm)
}

// What has no form is told ahead of what is at its end.
func TestP4_3_WhichErrorIsFirst(t *testing.T) {
	d := formatted(t, 10)
	d.Store(1, 0, Clock(api.MaxSeen+1))
	opens(t, "a number too great", d, 0, api.ErrEnd)
	d.Store(0, 0, superBytes(11))
	opens(t, "and a superblock for other lines", d, 0, api.ErrForm)
	d.Store(0, 0, make([]byte, 64))
	opens(t, "and no superblock", d, 0, api.ErrForm)
}

// Open looks at the volatile copies: what was stored counts at once, what is durable alone does not count.
func TestP4_3_OpenLooksAtWhatLoadReturns(t *testing.T) {
	d := formatted(t, 10)
	d.Store(1, 0, Clock(3))
	lineIs(t, "Durable", d.Durable, 1, clockBytes(0))
	opens(t, "a number that is not durable", d, 3, api.OK)
	d.Flush(1)
	d.Store(1, 0, Clock(4))
	d.Fence()
	lineIs(t, "Durable", d.Durable, 1, clockBytes(3))
	opens(t, "an older number that is durable", d, 4, api.OK)
	d.Store(1, 0, make([]byte, 64))
	opens(t, "a clock line that is durable alone", d, 0, api.ErrForm)
	d.Store(1, 0, Clock(4))
	d.Store(0, 0, make([]byte, 64))
	opens(t, "a superblock that is durable alone", d, 0, api.ErrForm)
	fresh := made(t, 10)
	fresh.Store(0, 0, superBytes(10))
	fresh.Store(1, 0, Clock(5))
	opens(t, "lines that are not durable", fresh, 5, api.OK)
	fresh.Cut(nil)
	opens(t, "lines that a cut lost", fresh, 0, api.ErrForm)
}

func TestP4_4_OpenBehindACut(t *testing.T) {
	all := make([]int, api.MaxLines)
	for line := range all {
		all[line] = line
	}
	for _, lines := range []int{10, 17, 26, api.MaxLines} {
		for _, keep := range [][]int{nil, {0}, {1}, {1, 0}, {-1, 5, 300}, all} {
			d := formatted(t, lines)
			d.Cut(keep)
			opens(t, "behind a cut", d, 0, api.OK)
			// Whatever the other lines are, and whether they are kept.
			for line := 2; line < lines; line++ {
				d.Store(line, 0, bytes.Repeat([]byte{byte(line)}, 64))
			}
			d.Cut(keep)
			opens(t, "behind a second cut", d, 0, api.OK)
		}
	}
}

// An epoch that is stored but not yet durable is there behind a cut that keeps its line, and only then.
func TestP4_4_NumberBehindACut(t *testing.T) {
	for _, x := range []struct {
		keep []int
		want uint64
	}{{nil, 0}, {[]int{0}, 0}, {[]int{1}, 8}, {[]int{0, 1, 2}, 8}} {
		d := formatted(t, 10)
		d.Store(1, 0, Clock(8))
		d.Cut(x.keep)
		opens(t, "behind a cut", d, x.want, api.OK)
	}
}
