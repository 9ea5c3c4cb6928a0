package nvm

import (
	"bytes"
	"math"
	"slices"
	"sync"
	"testing"

	"fusee/api"
)

// made returns a new device of n lines.
func made(t *testing.T, n int) *Dev {
	t.Helper()
	d, e := New(n)
	if e != api.OK || d == nil {
		t.Fatalf("New(%d): %d", n, e)
	}
	return d
}

// ok fails the test if one of the calls that answered es was refused.
func ok(t *testing.T, es ...api.Errno) {
	t.Helper()
	for i, e := range es {
		if e != api.OK {
			t.Fatalf("call %d of %d: %d", i, len(es), e)
		}
	}
}

// row returns the 64 bytes of a line that begins with first and is zero behind it.
func row(first ...byte) []byte {
	return append(first, make([]byte, api.LineBytes-len(first))...)
}

// holds fails the test if a line's copies are not these.
func holds(t *testing.T, d *Dev, line int, volatile, persistent []byte) {
	t.Helper()
	if b, e := d.Load(line); e != api.OK || !bytes.Equal(b, volatile) {
		t.Errorf("Load(%d) = %x, %d, want %x", line, b, e, volatile)
	}
	if b, e := d.Durable(line); e != api.OK || !bytes.Equal(b, persistent) {
		t.Errorf("Durable(%d) = %x, %d, want %x", line, b, e, persistent)
	}
}

// lies fails the test if other lines than these are loose, or on their way.
func lies(t *testing.T, d *Dev, loose, way []int) {
	t.Helper()
	if got := d.Loose(); !slices.Equal(got, loose) {
		t.Errorf("Loose() = %v, want %v", got, loose)
	}
	if got := d.Way(); !slices.Equal(got, way) {
		t.Errorf("Way() = %v, want %v", got, way)
	}
}

// cut fails the test if a cut that keeps these lines loses others than lost.
func cut(t *testing.T, d *Dev, keep, lost []int) {
	t.Helper()
	if got, e := d.Cut(keep); e != api.OK || !slices.Equal(got, lost) {
		t.Errorf("Cut(%v) = %v, %d, want %v", keep, got, e, lost)
	}
}

func TestP3_Examples(t *testing.T) {
	d := made(t, 2)
	ok(t, d.Store(0, 1, []byte{7}))
	holds(t, d, 0, row(0, 7), row())
	ok(t, d.Flush(0), d.Store(0, 1, []byte{8}), d.Fence())
	holds(t, d, 0, row(0, 8), row(0, 7))
	lies(t, d, []int{0}, nil)
	cut(t, d, nil, []int{0})
	holds(t, d, 0, row(0, 7), row(0, 7))
	if e := d.Store(2, 0, []byte{7}); e != api.ErrRange {
		t.Errorf("Store(2, 0, 07): %d", e)
	}
	if e := d.Store(0, 63, []byte{7, 7}); e != api.ErrRange {
		t.Errorf("Store(0, 63, 07 07): %d", e)
	}
	if none, e := New(0); none != nil || e != api.ErrRange {
		t.Errorf("New(0): %v, %d", none, e)
	}
}

func TestP3_1_New(t *testing.T) {
	for _, n := range []int{math.MinInt, -api.MaxLines, -1, 0, api.MaxLines + 1, api.MaxLines * 2, 1 << 40, math.MaxInt} {
		if d, e := New(n); d != nil || e != api.ErrRange {
			t.Errorf("New(%d): %v, %d", n, d, e)
		}
	}
	for _, n := range []int{1, 2, 10, 257, api.MaxLines} {
		d := made(t, n)
		if d.Lines() != n {
			t.Errorf("New(%d) has %d lines", n, d.Lines())
		}
		if d.Counts() != (api.Counts{}) {
			t.Errorf("New(%d) has counts %v", n, d.Counts())
		}
		lies(t, d, nil, nil)
		for line := range n {
			holds(t, d, line, row(), row())
		}
	}
}

func TestP3_1_DevicesAreIndependent(t *testing.T) {
	first, second := made(t, 1), made(t, 1)
	ok(t, first.Store(0, 0, []byte{5}), first.Flush(0))
	holds(t, second, 0, row(), row())
	lies(t, second, nil, nil)
	if second.Counts() != (api.Counts{}) {
		t.Errorf("the counts of another device: %v", second.Counts())
	}
}

// busy returns a device with lines in every state: untouched, durable, loose, on their way, both.
func busy(t *testing.T) *Dev {
	t.Helper()
	d := made(t, 5)
	ok(t, d.Store(1, 0, []byte{11}), d.Back(1))
	ok(t, d.Store(4, 0, []byte{41}), d.Flush(4), d.Fence())
	cut(t, d, nil, nil)
	ok(t, d.Store(2, 0, []byte{21}))
	ok(t, d.Store(3, 0, []byte{31}), d.Flush(3), d.Store(3, 0, []byte{32}))
	ok(t, d.Flush(4))
	return d
}

// isBusy fails the test if d is not as busy made it.
func isBusy(t *testing.T, d *Dev) {
	t.Helper()
	if d.Lines() != 5 || d.Counts() != (api.Counts{Stores: 5, Flushes: 3, Fences: 1, Backs: 1, Cuts: 1}) {
		t.Errorf("%d lines, counts %v", d.Lines(), d.Counts())
	}
	holds(t, d, 0, row(), row())
	holds(t, d, 1, row(11), row(11))
	holds(t, d, 2, row(21), row())
	holds(t, d, 3, row(32), row())
	holds(t, d, 4, row(41), row(41))
	lies(t, d, []int{2, 3}, []int{3, 4})
}

// upset calls everything that changes a device, so that nothing stays as busy made it.
func upset(t *testing.T, d *Dev) {
	t.Helper()
	for line := range 5 {
		ok(t, d.Store(line, 0, []byte{99}), d.Flush(line), d.Store(line, 0, []byte{100}))
	}
	ok(t, d.Fence(), d.Back(0))
	cut(t, d, []int{1}, []int{2, 3, 4})
	ok(t, d.Store(2, 5, []byte{1}), d.Flush(0))
}

func TestP3_1_Copy(t *testing.T) {
	d := busy(t)
	c := d.Copy()
	if c == nil || c == d {
		t.Fatal("Copy is not another device")
	}
	isBusy(t, c)
	isBusy(t, d)
	upset(t, c)
	isBusy(t, d)

	d = busy(t)
	c = d.Copy()
	upset(t, d)
	isBusy(t, c)
	// What was on its way in the original is on its way in the copy, with its own bytes.
	ok(t, c.Fence())
	holds(t, c, 3, row(32), row(31))
	second := c.Copy()
	ok(t, c.Back(2), second.Back(3))
	lies(t, c, []int{3}, nil)
	lies(t, second, []int{2}, nil)
}

func TestP3_2_WrongPlaces(t *testing.T) {
	for _, lines := range []int{1, 2, api.MaxLines} {
		d := made(t, lines)
		for _, line := range []int{math.MinInt, -lines, -1, lines, lines + 1, api.MaxLines, math.MaxInt} {
			if e := d.Store(line, 0, []byte{1}); e != api.ErrRange {
				t.Errorf("%d lines: Store(%d, ..): %d", lines, line, e)
			}
			if e := d.Store(line, 0, nil); e != api.ErrRange {
				t.Errorf("%d lines: Store(%d, nothing): %d", lines, line, e)
			}
			if b, e := d.Load(line); b != nil || e != api.ErrRange {
				t.Errorf("%d lines: Load(%d) = %x, %d", lines, line, b, e)
			}
			if b, e := d.Durable(line); b != nil || e != api.ErrRange {
				t.Errorf("%d lines: Durable(%d) = %x, %d", lines, line, b, e)
			}
			if e := d.Flush(line); e != api.ErrRange {
				t.Errorf("%d lines: Flush(%d): %d", lines, line, e)
			}
			if e := d.Back(line); e != api.ErrRange {
				t.Errorf("%d lines: Back(%d): %d", lines, line, e)
			}
		}
		// What was refused changed nothing and was not counted.
		lies(t, d, nil, nil)
		if d.Counts() != (api.Counts{}) {
			t.Errorf("%d lines: counts %v", lines, d.Counts())
		}
	}
}

func TestP3_2_StoreBounds(t *testing.T) {
	places := []int{math.MinInt, -65, -64, -1, 0, 1, 2, 31, 62, 63, 64, 65, 128, math.MaxInt - 64, math.MaxInt - 63, math.MaxInt}
	for _, at := range places {
		for _, n := range []int{0, 1, 2, 32, 33, 62, 63, 64, 65, 66, 128, 1000} {
			d := made(t, 3)
			full := bytes.Repeat([]byte{3}, api.LineBytes)
			ok(t, d.Store(1, 0, full))
			b := bytes.Repeat([]byte{9}, n)
			want, count := api.OK, 2
			if at < 0 || at > api.LineBytes || n > api.LineBytes-at {
				want, count = api.ErrRange, 1
			}
			if e := d.Store(1, at, b); e != want {
				t.Errorf("Store(1, %d, %d bytes): %d, want %d", at, n, e, want)
			}
			if want == api.OK {
				copy(full[at:], b)
			}
			holds(t, d, 0, row(), row())
			holds(t, d, 1, full, row())
			holds(t, d, 2, row(), row())
			if d.Counts() != (api.Counts{Stores: count}) {
				t.Errorf("Store(1, %d, %d bytes): counts %v", at, n, d.Counts())
			}
		}
	}
}

func TestP3_2_StoreLaysOverWhatWasThere(t *testing.T) {
	d := made(t, 1)
	ok(t, d.Store(0, 2, []byte{1, 2, 3, 4}), d.Store(0, 3, []byte{8, 9}), d.Store(0, 63, []byte{5}))
	want := row(0, 0, 1, 8, 9, 4)
	want[63] = 5
	holds(t, d, 0, want, row())
	// The capacity behind b is not part of b.
	ok(t, d.Store(0, 0, []byte{6, 7, 7}[:1]))
	want[0] = 6
	holds(t, d, 0, want, row())
}

func TestP3_2_MemoryIsNotShared(t *testing.T) {
	d := made(t, 2)
	whole := []byte{1, 2, 3, 4, 5, 6}
	own := whole[:4]
	ok(t, d.Store(0, 0, own), d.Back(0))
	if !bytes.Equal(whole, []byte{1, 2, 3, 4, 5, 6}) {
		t.Errorf("Store made its argument %v", whole)
	}
	own[0] = 99
	holds(t, d, 0, row(1, 2, 3, 4), row(1, 2, 3, 4))
	volatile, _ := d.Load(0)
	persistent, _ := d.Durable(0)
	again, _ := d.Load(0)
	for i := range volatile {
		volatile[i], persistent[i] = 77, 88
	}
	_ = append(volatile[:10], 66)
	if !bytes.Equal(again, row(1, 2, 3, 4)) {
		t.Errorf("two answers share memory: %v", again)
	}
	holds(t, d, 0, row(1, 2, 3, 4), row(1, 2, 3, 4))
	// An answer stays what it was when the device goes on.
	ok(t, d.Store(0, 0, row(5, 5)))
	if !bytes.Equal(again, row(1, 2, 3, 4)) {
		t.Errorf("an answer changed with the device: %v", again)
	}
}

func TestP3_4_ListsAreNotShared(t *testing.T) {
	d := made(t, 4)
	for line := range 3 {
		ok(t, d.Store(line, 0, []byte{1}), d.Flush(line))
	}
	all := []int{0, 1, 2}
	loose, way := d.Loose(), d.Way()
	loose[0], way[1] = 70, 80
	lies(t, d, all, all)
	keep := []int{2, 9, 2, -1}
	whole := append(slices.Clone(keep), 1, 0)
	lost, _ := d.Cut(whole[:4])
	if !slices.Equal(whole, append(keep, 1, 0)) {
		t.Errorf("Cut made its argument %v", whole)
	}
	whole[0] = 55
	if !slices.Equal(lost, []int{0, 1}) {
		t.Errorf("lost %v", lost)
	}
	lost[0] = 99
	lies(t, d, nil, nil)
}

func TestP3_3_StoreBehindTheFlush(t *testing.T) {
	d := made(t, 1)
	ok(t, d.Store(0, 0, []byte{1}), d.Flush(0), d.Store(0, 0, []byte{2}))
	holds(t, d, 0, row(2), row())
	lies(t, d, []int{0}, []int{0})
	ok(t, d.Fence())
	holds(t, d, 0, row(2), row(1))
	lies(t, d, []int{0}, nil)
	// A fence without a flush brings nothing.
	ok(t, d.Fence())
	holds(t, d, 0, row(2), row(1))
	ok(t, d.Flush(0), d.Fence())
	holds(t, d, 0, row(2), row(2))
	lies(t, d, nil, nil)
}

func TestP3_3_FlushAlone(t *testing.T) {
	d := made(t, 2)
	ok(t, d.Store(0, 0, []byte{1}), d.Flush(0))
	holds(t, d, 0, row(1), row())
	lies(t, d, []int{0}, []int{0})
	// A line that is not loose can be on its way, too.
	ok(t, d.Flush(1))
	lies(t, d, []int{0}, []int{0, 1})
}

func TestP3_3_FlushOfEqualBytes(t *testing.T) {
	d := made(t, 1)
	ok(t, d.Flush(0), d.Store(0, 0, []byte{4}), d.Back(0))
	ok(t, d.Flush(0), d.Store(0, 0, []byte{5}))
	ok(t, d.Fence())
	holds(t, d, 0, row(5), row(4))
	// Stored back to what is durable: nothing is loose, but the bytes between are on their way, and the fence brings them.
	ok(t, d.Flush(0), d.Store(0, 0, []byte{4}))
	lies(t, d, nil, []int{0})
	ok(t, d.Fence())
	holds(t, d, 0, row(4), row(5))
	lies(t, d, []int{0}, nil)
}

func TestP3_3_SecondFlush(t *testing.T) {
	d := made(t, 1)
	ok(t, d.Store(0, 0, []byte{1, 1}), d.Flush(0))
	ok(t, d.Store(0, 0, []byte{2}), d.Flush(0))
	ok(t, d.Store(0, 0, []byte{3}))
	lies(t, d, []int{0}, []int{0})
	ok(t, d.Fence())
	holds(t, d, 0, row(3, 1), row(2, 1))
	lies(t, d, []int{0}, nil)
}

func TestP3_3_FenceTakesAllLines(t *testing.T) {
	d := made(t, api.MaxLines)
	flushed := []int{0, 1, 7, 8, 100, 256, 257}
	for line := range api.MaxLines {
		ok(t, d.Store(line, 63, []byte{byte(line)}), d.Store(line, 0, []byte{7}))
	}
	for _, line := range slices.Backward(flushed) {
		ok(t, d.Flush(line))
	}
	if !slices.Equal(d.Way(), flushed) || len(d.Loose()) != api.MaxLines {
		t.Errorf("Way() = %v, %d loose", d.Way(), len(d.Loose()))
	}
	ok(t, d.Fence())
	for line := range api.MaxLines {
		want := row()
		if slices.Contains(flushed, line) {
			want = row(7)
			want[63] = byte(line)
		}
		if b, e := d.Durable(line); e != api.OK || !bytes.Equal(b, want) {
			t.Errorf("Durable(%d) = %x, %d", line, b, e)
		}
	}
	if len(d.Way()) != 0 || len(d.Loose()) != api.MaxLines-len(flushed) {
		t.Errorf("Way() = %v, %d loose", d.Way(), len(d.Loose()))
	}
}

func TestP3_3_BackBetweenFlushAndFence(t *testing.T) {
	d := made(t, 2)
	ok(t, d.Store(0, 0, []byte{1}), d.Flush(0), d.Store(0, 0, []byte{2}))
	ok(t, d.Store(1, 0, []byte{6}), d.Flush(1))
	ok(t, d.Back(0))
	holds(t, d, 0, row(2), row(2))
	lies(t, d, []int{1}, []int{1})
	ok(t, d.Store(0, 0, []byte{3}), d.Fence())
	// The line's older bytes stay away; the other line's are not lost.
	holds(t, d, 0, row(3), row(2))
	holds(t, d, 1, row(6), row(6))
	lies(t, d, []int{0}, nil)
	// A flush behind the writing back counts again.
	ok(t, d.Back(0), d.Flush(0), d.Store(0, 0, []byte{4}), d.Fence())
	holds(t, d, 0, row(4), row(3))
}

func TestP3_3_BackOfALineAlone(t *testing.T) {
	d := made(t, 3)
	ok(t, d.Store(0, 0, []byte{1}), d.Store(1, 0, []byte{2}), d.Back(1), d.Back(2))
	holds(t, d, 0, row(1), row())
	holds(t, d, 1, row(2), row(2))
	holds(t, d, 2, row(), row())
	lies(t, d, []int{0}, nil)
}

// five returns a device with lines 0 to 4, of which 1, 3 and 4 are loose, and 2 and 3 are on their way.
func five(t *testing.T) *Dev {
	t.Helper()
	d := made(t, 5)
	ok(t, d.Store(0, 0, []byte{10}), d.Back(0))
	ok(t, d.Store(1, 0, []byte{11}))
	ok(t, d.Flush(2))
	ok(t, d.Store(3, 0, []byte{13}), d.Flush(3), d.Store(3, 0, []byte{23}))
	ok(t, d.Store(4, 0, []byte{14}), d.Back(4), d.Store(4, 0, []byte{24}))
	lies(t, d, []int{1, 3, 4}, []int{2, 3})
	return d
}

// left fails the test if d is not what a cut that kept these lines leaves of five.
func left(t *testing.T, d *Dev, keep []int) {
	t.Helper()
	lasting := []byte{10, 0, 0, 0, 14}
	latest := []byte{10, 11, 0, 23, 24}
	for line := range 5 {
		want := lasting[line]
		if slices.Contains(keep, line) {
			want = latest[line]
		}
		holds(t, d, line, row(want), row(want))
	}
}

func TestP3_4_Cut(t *testing.T) {
	for _, x := range []struct {
		keep, lost []int
	}{
		{nil, []int{1, 3, 4}},
		{[]int{}, []int{1, 3, 4}},
		{[]int{1}, []int{3, 4}},
		{[]int{3}, []int{1, 4}},
		{[]int{4, 1}, []int{3}},
		{[]int{4, 3, 1}, nil},
		{[]int{0, 1, 2, 3, 4}, nil},
		{[]int{3, 3, 3}, []int{1, 4}},
		{[]int{0, 2}, []int{1, 3, 4}},
		{[]int{-1, 5, 258, math.MinInt, math.MaxInt}, []int{1, 3, 4}},
		{[]int{math.MaxInt, 4, -4, 4, 2, 5, 1, 1}, []int{3}},
	} {
		d := five(t)
		before := d.Counts()
		cut(t, d, x.keep, x.lost)
		lies(t, d, nil, nil)
		left(t, d, x.keep)
		// What was on its way does not come behind the cut.
		ok(t, d.Fence())
		left(t, d, x.keep)
		before.Cuts++
		before.Fences++
		if d.Counts() != before {
			t.Errorf("Cut(%v): counts %v, want %v", x.keep, d.Counts(), before)
		}
		cut(t, d, []int{0, 1, 2, 3, 4}, nil)
	}
}

// A line that is on its way but not loose keeps what its copies say, whether the cut keeps it or not.
func TestP3_4_CutOfALineOnItsWay(t *testing.T) {
	for _, keep := range [][]int{nil, {0}} {
		d := made(t, 1)
		ok(t, d.Store(0, 0, []byte{1}), d.Flush(0), d.Store(0, 0, []byte{0}))
		lies(t, d, nil, []int{0})
		cut(t, d, keep, nil)
		ok(t, d.Fence())
		holds(t, d, 0, row(), row())
	}
}

func TestP3_4_LongKeep(t *testing.T) {
	d := made(t, api.MaxLines)
	for line := range api.MaxLines {
		ok(t, d.Store(line, line%api.LineBytes, []byte{1}))
	}
	keep := make([]int, 1<<20)
	for i := range keep {
		keep[i] = i % (api.MaxLines - 1)
	}
	cut(t, d, keep, []int{api.MaxLines - 1})
	if len(d.Loose()) != 0 {
		t.Errorf("Loose() = %v", d.Loose())
	}
}

func TestP3_4_LooseIsDifference(t *testing.T) {
	d := made(t, 3)
	for at := range api.LineBytes {
		ok(t, d.Store(1, at, []byte{1}))
		lies(t, d, []int{1}, nil)
		ok(t, d.Store(1, at, []byte{0}))
		lies(t, d, nil, nil)
	}
	ok(t, d.Store(2, 0, []byte{0, 0}), d.Store(0, 5, nil))
	lies(t, d, nil, nil)
	ok(t, d.Store(2, 0, []byte{1}), d.Store(0, 63, []byte{1}))
	lies(t, d, []int{0, 2}, nil)
}

func TestP3_4_Counts(t *testing.T) {
	d := made(t, 1)
	for range 2 {
		ok(t, d.Store(0, 0, nil))
	}
	for range 3 {
		ok(t, d.Flush(0))
	}
	for range 4 {
		ok(t, d.Fence())
	}
	for range 5 {
		ok(t, d.Back(0))
	}
	for range 6 {
		cut(t, d, []int{0, 7}, nil)
	}
	want := api.Counts{Stores: 2, Flushes: 3, Fences: 4, Backs: 5, Cuts: 6}
	if d.Counts() != want {
		t.Errorf("counts %v, want %v", d.Counts(), want)
	}
	// Neither a refused call nor one that only asks is counted.
	d.Store(1, 0, []byte{1})
	d.Store(0, -1, []byte{1})
	d.Store(0, 64, []byte{1})
	d.Flush(-1)
	d.Back(1)
	d.Load(0)
	d.Load(1)
	d.Durable(0)
	d.Loose()
	d.Way()
	d.Lines()
	d.Copy()
	d.Counts()
	if d.Counts() != want {
		t.Errorf("counts %v, want %v", d.Counts(), want)
	}
}

func TestP3_5_FlushedAndFencedSurvives(t *testing.T) {
	d := made(t, 3)
	ok(t, d.Store(1, 4, []byte{1, 2, 3}), d.Flush(1), d.Fence())
	want := row(0, 0, 0, 0, 1, 2, 3)
	holds(t, d, 1, want, want)
	for _, keep := range [][]int{nil, {0}, {1}, {1, 1}, {0, 1, 2}} {
		// Whatever is done to other lines, and to this one but for a store.
		ok(t, d.Store(0, 0, []byte{9}), d.Flush(0), d.Store(2, 0, []byte{8}), d.Back(2), d.Flush(1), d.Fence(), d.Back(1))
		cut(t, d, keep, nil)
		holds(t, d, 1, want, want)
		ok(t, d.Fence())
		holds(t, d, 1, want, want)
	}
	// Stored to again, but neither flushed nor kept: the bytes that were fenced come back.
	ok(t, d.Store(1, 4, []byte{7}))
	cut(t, d, nil, []int{1})
	holds(t, d, 1, want, want)
	// Stored to again and kept: now they are gone.
	ok(t, d.Store(1, 4, []byte{7}))
	cut(t, d, []int{1}, nil)
	holds(t, d, 1, row(0, 0, 0, 0, 7, 2, 3), row(0, 0, 0, 0, 7, 2, 3))
}

func TestNilDevice(t *testing.T) {
	var d *Dev
	for _, line := range []int{-1, 0, 1} {
		for what, e := range map[string]api.Errno{
			"Store": d.Store(line, line, []byte{1}),
			"Flush": d.Flush(line),
			"Back":  d.Back(line),
			"Fence": d.Fence(),
		} {
			if e != api.ErrArg {
				t.Errorf("%s(%d) of no device: %d", what, line, e)
			}
		}
		if b, e := d.Load(line); b != nil || e != api.ErrArg {
			t.Errorf("Load(%d) of no device: %v, %d", line, b, e)
		}
		if b, e := d.Durable(line); b != nil || e != api.ErrArg {
			t.Errorf("Durable(%d) of no device: %v, %d", line, b, e)
		}
		if lost, e := d.Cut([]int{line}); lost != nil || e != api.ErrArg {
			t.Errorf("Cut(%d) of no device: %v, %d", line, lost, e)
		}
	}
	if d.Lines() != 0 || d.Loose() != nil || d.Way() != nil || d.Copy() != nil || d.Counts() != (api.Counts{}) {
		t.Error("a nil device has something")
	}
}

func TestManyGoroutines(t *testing.T) {
	var wait sync.WaitGroup
	for k := range 8 {
		wait.Go(func() {
			d, _ := New(1 + k)
			for i := range 50 {
				d.Store(k, i, []byte{byte(k), byte(i)})
				d.Flush(k)
				d.Fence()
			}
			if b, e := d.Durable(k); e != api.OK || b[49] != byte(k) || b[50] != 49 || d.Counts() != (api.Counts{Stores: 50, Flushes: 50, Fences: 50}) {
				t.Errorf("device %d: %v, %v", k, b, d.Counts())
			}
		})
	}
	wait.Wait()
}
