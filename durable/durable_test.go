package durable

import (
	"math"
	"slices"
	"sync"
	"testing"

	"fusee/api"
	"fusee/geom"
	"fusee/nvm"
)

// made returns a new clock for so many threads.
func made(t *testing.T, threads int, durable uint64) *Clock {
	t.Helper()
	c, e := New(threads, durable)
	if c == nil || e != api.OK {
		t.Fatalf("New(%d, %d): %v, %d", threads, durable, c, e)
	}
	return c
}

// device returns a new device of so many lines.
func device(t *testing.T, lines int) *nvm.Dev {
	t.Helper()
	d, e := nvm.New(lines)
	if d == nil || e != api.OK {
		t.Fatalf("a device of %d lines: %d", lines, e)
	}
	return d
}

// epochs fails the test if Now and Durable are not these.
func epochs(t *testing.T, c *Clock, now, durable uint64) {
	t.Helper()
	if c.Now() != now || c.Durable() != durable {
		t.Errorf("Now %d, Durable %d, want %d, %d", c.Now(), c.Durable(), now, durable)
	}
}

// notes fails the test if Note(thread, line) does not return e.
func notes(t *testing.T, c *Clock, thread, line int, e api.Errno) {
	t.Helper()
	if got := c.Note(thread, line); got != e {
		t.Errorf("Note(%d, %d) = %d, want %d", thread, line, got, e)
	}
}

// owes fails the test if Owed does not return these counts.
func owes(t *testing.T, c *Clock, counts ...int) {
	t.Helper()
	if got := c.Owed(); !slices.Equal(got, counts) {
		t.Errorf("Owed = %v, want %v", got, counts)
	}
}

// begins fails the test if Begin does not return e.
func begins(t *testing.T, c *Clock, e api.Errno) {
	t.Helper()
	if got := c.Begin(); got != e {
		t.Errorf("Begin = %d, want %d", got, e)
	}
}

// closing fails the test if Closing does not return the epoch (0: none is being closed).
func closing(t *testing.T, c *Clock, epoch uint64) {
	t.Helper()
	if got, ok := c.Closing(); got != epoch || ok != (epoch != 0) {
		t.Errorf("Closing = %d, %v, want %d", got, ok, epoch)
	}
}

// left fails the test if Left does not return these lines.
func left(t *testing.T, c *Clock, lines ...int) {
	t.Helper()
	if got := c.Left(); !slices.Equal(got, lines) {
		t.Errorf("Left = %v, want %v", got, lines)
	}
}

// steps fails the test if a Step with d does not do this.
func steps(t *testing.T, c *Clock, d *nvm.Dev, act int) {
	t.Helper()
	if got, e := c.Step(d); got != act || e != api.OK {
		t.Errorf("Step = %d, %d, want %d", got, e, act)
	}
}

// refuses fails the test if a Step with d does not return the error e.
func refuses(t *testing.T, c *Clock, d *nvm.Dev, e api.Errno) {
	t.Helper()
	if got, code := c.Step(d); got != 0 || code != e {
		t.Errorf("Step = %d, %d, want error %d", got, code, e)
	}
}

// holds fails the test if the line's volatile copy does not begin with v, or its persistent copy with p.
func holds(t *testing.T, d *nvm.Dev, line int, v, p byte) {
	t.Helper()
	a, _ := d.Load(line)
	b, _ := d.Durable(line)
	if a[0] != v || b[0] != p {
		t.Errorf("line %d has %d, persistent %d, want %d, %d", line, a[0], b[0], v, p)
	}
}

// noThreads returns numbers that are no thread of a clock for so many: the neighbours of the threads, and numbers that would be threads if their upper bits were lost.
func noThreads(threads int) []int {
	return []int{-1, threads, -2, -threads, threads + 1, 4, 5, 256, 1 << 16, 1 << 31, 1 << 32, 1<<32 + threads - 1, 1 << 61, -1 << 32, math.MaxInt, math.MinInt, math.MinInt + threads - 1}
}

func TestExamples(t *testing.T) {
	c := made(t, 1, 0)
	epochs(t, c, 1, 0)
	notes(t, c, 0, 5, api.OK)
	notes(t, c, 0, 3, api.OK)
	notes(t, c, 0, 5, api.OK)
	owes(t, c, 3)

	begins(t, c, api.OK)
	epochs(t, c, 2, 0)
	left(t, c, 3, 5)
	begins(t, c, api.ErrBusy)

	d := device(t, 10)
	for _, act := range []int{1, 1, 2, 3, 1, 2} {
		if c.Durable() != 0 {
			t.Errorf("Durable is %d ahead of the last fence", c.Durable())
		}
		steps(t, c, d, act)
	}
	epochs(t, c, 2, 1)
	refuses(t, c, d, api.ErrIdle)
}

func TestP9_1_New(t *testing.T) {
	for threads := 1; threads <= 4; threads++ {
		for _, durable := range []uint64{0, 1, 7, 1 << 32, 1<<60 - 1, 1 << 60} {
			c := made(t, threads, durable)
			epochs(t, c, durable+1, durable)
			owes(t, c, make([]int, threads)...)
			closing(t, c, 0)
			left(t, c)
			refuses(t, c, device(t, 2), api.ErrIdle)
			for thread := range threads {
				notes(t, c, thread, 0, api.OK)
			}
			notes(t, c, threads, 0, api.ErrArg)
		}
	}
}

// ErrRange comes ahead of ErrEnd.
func TestP9_1_NewRefused(t *testing.T) {
	refused := func(threads int, durable uint64, e api.Errno) {
		t.Helper()
		if c, got := New(threads, durable); c != nil || got != e {
			t.Errorf("New(%d, %d) = %v, %d, want error %d", threads, durable, c, got, e)
		}
	}
	tooGreat := []uint64{1<<60 + 1, 1<<60 + 2, 1 << 61, 1 << 62, 1<<63 - 1, 1 << 63, math.MaxUint64 - 1, math.MaxUint64}
	for _, threads := range []int{0, 5, -1, 6, -2, -4, 8, 256, 257, 1 << 16, 1 << 31, 1 << 32, 1<<32 + 1, 1<<61 + 4, -1 << 32, -1<<32 + 1, math.MaxInt, math.MinInt, math.MinInt + 1} {
		refused(threads, 0, api.ErrRange)
		refused(threads, 1<<60, api.ErrRange)
		for _, durable := range tooGreat {
			refused(threads, durable, api.ErrRange)
		}
	}
	for threads := 1; threads <= 4; threads++ {
		for _, durable := range tooGreat {
			refused(threads, durable, api.ErrEnd)
		}
	}
}

// A clock goes on from the greatest epoch that it may be made with.
func TestP9_1_NewAtTheEnd(t *testing.T) {
	x := newPair(t, 4, 1<<60, 10)
	for range 3 {
		x.note(3, 9)
		x.begin()
		x.closes()
	}
	epochs(t, x.c, 1<<60+4, 1<<60+3)
	b, _ := x.d.Durable(1)
	if v, ok := geom.IsClock(b); v != 1<<60+3 || !ok {
		t.Errorf("the clock line has %d, %v", v, ok)
	}
}

func TestP9_1_Note(t *testing.T) {
	for threads := 1; threads <= 4; threads++ {
		for thread := range threads {
			x := newPair(t, threads, 5, 10)
			for _, line := range []int{0, 257, 1, 256, 2, 9, 10, 128, 0} {
				notes(t, x.c, thread, line, api.OK)
				x.m.note(thread, line)
				x.same("a Note")
			}
			begins(t, x.c, api.OK)
			left(t, x.c, 0, 1, 2, 9, 10, 128, 256, 257)
		}
	}
}

// What is refused changes nothing, whether an epoch is being closed or not; that there is no such thread comes ahead of the line.
func TestP9_1_NoteRefused(t *testing.T) {
	for threads := 1; threads <= 4; threads++ {
		x := newPair(t, threads, 0, 10)
		for round := range 3 {
			for _, thread := range noThreads(threads) {
				for _, line := range append(farLines(), 0, 5, 257) {
					notes(t, x.c, thread, line, api.ErrArg)
				}
				x.same("a Note of no thread")
			}
			for thread := range threads {
				for _, line := range farLines() {
					notes(t, x.c, thread, line, api.ErrRange)
				}
				x.same("a Note of no line")
			}
			x.note(round%threads, 7)
			x.begin()
			x.step()
		}
	}
}

// A Note while an epoch is being closed belongs to the next one, whichever step it comes behind.
func TestP9_1_NoteWhileClosing(t *testing.T) {
	for at := 0; at <= 6; at++ {
		x := newPair(t, 2, 0, 10)
		x.note(0, 5)
		x.note(1, 3)
		x.begin()
		for range at {
			x.step()
		}
		x.note(1, 5)
		x.note(1, 2)
		x.note(0, 3)
		x.same("Notes of the next epoch")
		owes(t, x.c, 1, 2)
		x.closes()
		epochs(t, x.c, 2, 1)
		owes(t, x.c, 1, 2)
		left(t, x.c)
		x.begin()
		left(t, x.c, 2, 3, 5)
		x.closes()
		epochs(t, x.c, 3, 2)
	}
}

func TestP9_1_Owed(t *testing.T) {
	c := made(t, 3, 0)
	owes(t, c, 0, 0, 0)
	for i := range 300 {
		notes(t, c, 1, 4, api.OK)
		owes(t, c, 0, i+1, 0)
	}
	notes(t, c, 2, 4, api.OK)
	notes(t, c, 0, 4, api.OK)
	notes(t, c, 0, 6, api.OK)
	owes(t, c, 2, 300, 1)
	owes(t, c, 2, 300, 1)
	begins(t, c, api.OK)
	owes(t, c, 0, 0, 0)
	notes(t, c, 2, 6, api.OK)
	begins(t, c, api.ErrBusy)
	owes(t, c, 0, 0, 1)
}

func TestP9_2_BeginWithNothing(t *testing.T) {
	for threads := 1; threads <= 4; threads++ {
		c, d := made(t, threads, 41), device(t, 10)
		begins(t, c, api.OK)
		epochs(t, c, 43, 41)
		closing(t, c, 42)
		left(t, c)
		for _, act := range []int{api.ActFence, api.ActStore, api.ActFlush, api.ActFence} {
			begins(t, c, api.ErrBusy)
			steps(t, c, d, act)
		}
		epochs(t, c, 43, 42)
		if got, want := d.Counts(), (api.Counts{Stores: 1, Flushes: 1, Fences: 2}); got != want {
			t.Errorf("the device's counts are %v, want %v", got, want)
		}
	}
}

// The lines of all threads, each once, in ascending order, in whichever order they were noted.
func TestP9_2_BeginWithMany(t *testing.T) {
	c := made(t, 4, 0)
	for thread, lines := range [][]int{{9, 2, 257}, {2, 2, 0}, {100, 9, 2, 1}, {}} {
		for _, line := range lines {
			notes(t, c, thread, line, api.OK)
		}
	}
	owes(t, c, 3, 3, 4, 0)
	left(t, c)
	begins(t, c, api.OK)
	left(t, c, 0, 1, 2, 9, 100, 257)
	owes(t, c, 0, 0, 0, 0)
}

// Every line of the greatest device, noted from the last to the first by all threads.
func TestP9_2_BeginWithEveryLine(t *testing.T) {
	x := newPair(t, 4, 0, 258)
	for line := 257; line >= 0; line-- {
		x.note(line%4, line)
		x.note((line+1)%4, line)
	}
	x.begin()
	want := make([]int, 258)
	for line := range want {
		want[line] = line
	}
	left(t, x.c, want...)
	for line := range want {
		steps(t, x.c, x.d, api.ActFlush)
		x.m.step(x.want)
		left(t, x.c, want[line+1:]...)
	}
	x.same("the flushes of all lines")
	x.closes()
}

// While an epoch is being closed Begin is refused and changes nothing, behind each step; as soon as it is closed, Begin starts the next one.
func TestP9_2_BeginBusy(t *testing.T) {
	x := newPair(t, 2, 0, 10)
	for round := range 4 {
		x.note(0, 5)
		x.note(1, 3+round)
		x.begin()
		x.note(1, 8)
		for len(x.m.remain) > 0 {
			begins(t, x.c, api.ErrBusy)
			x.same("a Begin that is refused")
			begins(t, x.c, api.ErrBusy)
			x.same("a second one")
			x.step()
		}
		closing(t, x.c, 0)
		epochs(t, x.c, uint64(round+2), uint64(round+1))
	}
	begins(t, x.c, api.OK)
	epochs(t, x.c, 6, 4)
	closing(t, x.c, 5)
	left(t, x.c, 8)
}

func TestP9_2_ClosingAndLeft(t *testing.T) {
	c, d := made(t, 2, 9), device(t, 10)
	notes(t, c, 1, 4, api.OK)
	notes(t, c, 0, 1, api.OK)
	notes(t, c, 0, 7, api.OK)
	closing(t, c, 0)
	left(t, c)
	begins(t, c, api.OK)
	closing(t, c, 10)
	left(t, c, 1, 4, 7)
	for _, want := range [][]int{{4, 7}, {7}, {}, {}, {}, {}} {
		if _, e := c.Step(d); e != api.OK {
			t.Errorf("Step: %d", e)
		}
		closing(t, c, 10)
		left(t, c, want...)
		left(t, c, want...)
		epochs(t, c, 11, 9)
	}
	steps(t, c, d, api.ActFence)
	closing(t, c, 0)
	left(t, c)
	epochs(t, c, 11, 10)
}

// No device: refused, ahead of being idle, and changes nothing, behind each step.
func TestP9_3_StepWithoutDevice(t *testing.T) {
	x := newPair(t, 1, 0, 10)
	x.stepWithout()
	x.same("a step without a device, idle")
	x.note(0, 5)
	x.note(0, 6)
	x.begin()
	for len(x.m.remain) > 0 {
		x.stepWithout()
		x.same("a step without a device")
		x.step()
	}
	x.stepWithout()
	refuses(t, x.c, x.d, api.ErrIdle)
	x.same("idle again")
}

// Idle: refused, with any device, and changes neither the clock nor the device.
func TestP9_3_StepIdle(t *testing.T) {
	for _, lines := range []int{1, 2, 10, 258} {
		x := newPair(t, 2, 3, lines)
		x.note(0, 0)
		x.both(func(d *nvm.Dev) {
			d.Store(0, 0, []byte{7})
			d.Flush(0)
		})
		for range 3 {
			refuses(t, x.c, x.d, api.ErrIdle)
			x.same("an idle step")
		}
		x.begin()
		x.closes()
		refuses(t, x.c, x.d, api.ErrIdle)
		x.same("an idle step behind the last fence")
	}
}

// Each action, with what it does to both copies of the lines; another line that is stored to is left alone.
func TestP9_3_Actions(t *testing.T) {
	c, d := made(t, 1, 6), device(t, 10)
	for _, line := range []int{1, 2, 4, 5} {
		d.Store(line, 0, []byte{9})
	}
	notes(t, c, 0, 4, api.OK)
	notes(t, c, 0, 2, api.OK)
	begins(t, c, api.OK)
	way := func(lines ...int) {
		t.Helper()
		if got := d.Way(); !slices.Equal(got, lines) {
			t.Errorf("lines %v are on their way, want %v", got, lines)
		}
	}

	steps(t, c, d, api.ActFlush)
	way(2)
	holds(t, d, 2, 9, 0)
	// What is stored behind the flush is not of the flush.
	d.Store(2, 0, []byte{8})
	steps(t, c, d, api.ActFlush)
	way(2, 4)
	holds(t, d, 4, 9, 0)

	steps(t, c, d, api.ActFence)
	way()
	holds(t, d, 2, 8, 9)
	holds(t, d, 4, 9, 9)
	holds(t, d, 1, 9, 0)

	steps(t, c, d, api.ActStore)
	way()
	holds(t, d, 1, api.TagClock, 0)
	if b, _ := d.Load(1); !slices.Equal(b, geom.Clock(7)) {
		t.Errorf("the clock line is %v", b)
	}

	steps(t, c, d, api.ActFlush)
	way(1)
	holds(t, d, 1, api.TagClock, 0)
	epochs(t, c, 8, 6)

	steps(t, c, d, api.ActFence)
	way()
	if b, _ := d.Durable(1); !slices.Equal(b, geom.Clock(7)) {
		t.Errorf("the clock line's persistent copy is %v", b)
	}
	epochs(t, c, 8, 7)
	holds(t, d, 5, 9, 0)
	holds(t, d, 2, 8, 9)
	if got, want := d.Counts(), (api.Counts{Stores: 6, Flushes: 3, Fences: 2}); got != want {
		t.Errorf("the device's counts are %v, want %v", got, want)
	}
}

// A noted clock line is flushed as it is, and stored to behind that.
func TestP9_3_ClockLineNoted(t *testing.T) {
	x := newPair(t, 1, 0, 10)
	x.both(func(d *nvm.Dev) { d.Store(1, 0, []byte{77}) })
	x.note(0, 1)
	x.begin()
	x.step()
	x.step()
	x.same("the clock line as a line of the epoch")
	holds(t, x.d, 1, 77, 77)
	x.closes()
	holds(t, x.d, 1, api.TagClock, api.TagClock)
}

// Lines that the device does not have are stepped over one by one: they are then no longer left.
func TestP9_3_LinesThatAreNotThere(t *testing.T) {
	for _, lines := range []int{1, 2, 3, 10, 257} {
		x := newPair(t, 2, 0, lines)
		x.both(func(d *nvm.Dev) { d.Store(0, 5, []byte{3}) })
		for _, line := range []int{257, 0, lines, lines - 1} {
			x.note(1, line)
		}
		x.begin()
		for n := len(x.m.left()); n > 0; n-- {
			steps(t, x.c, x.d, api.ActFlush)
			x.m.step(x.want)
			x.same("a flush")
			if got := len(x.c.Left()); got != n-1 {
				t.Errorf("%d lines are left, want %d", got, n-1)
			}
		}
		x.closes()
		epochs(t, x.c, 2, 1)
	}
}

// A device of one line has no clock line; the epoch is closed all the same.
func TestP9_3_SmallDevices(t *testing.T) {
	for _, lines := range []int{1, 2} {
		c, d := made(t, 1, 0), device(t, lines)
		d.Store(0, 0, []byte{5})
		notes(t, c, 0, 0, api.OK)
		begins(t, c, api.OK)
		for _, act := range []int{1, 2, 3, 1, 2} {
			epochs(t, c, 2, 0)
			steps(t, c, d, act)
		}
		epochs(t, c, 2, 1)
		holds(t, d, 0, 5, 5)
		want := api.Counts{Stores: lines, Flushes: lines, Fences: 2}
		if got := d.Counts(); got != want {
			t.Errorf("%d lines: the device's counts are %v, want %v", lines, got, want)
		}
		if lines == 2 {
			holds(t, d, 1, api.TagClock, api.TagClock)
		}
	}
}

// Each epoch stores its own number, and Durable changes with the last fence alone.
func TestP9_3_DurableWithTheLastFence(t *testing.T) {
	c, d := made(t, 1, 0), device(t, 10)
	for epoch := uint64(1); epoch <= 300; epoch++ {
		count := int(epoch % 4)
		for i := range count {
			notes(t, c, 0, 2+2*i, api.OK)
		}
		begins(t, c, api.OK)
		for range count + 3 {
			epochs(t, c, epoch+1, epoch-1)
			c.Step(d)
		}
		epochs(t, c, epoch+1, epoch-1)
		steps(t, c, d, api.ActFence)
		epochs(t, c, epoch+1, epoch)
		b, _ := d.Durable(1)
		if v, ok := geom.IsClock(b); v != epoch || !ok {
			t.Errorf("the clock line has %d, %v, want %d", v, ok, epoch)
		}
	}
}

// A step works with the device that it is given, whichever the one before it was given.
func TestP9_3_AnotherDeviceEachStep(t *testing.T) {
	c := made(t, 1, 0)
	notes(t, c, 0, 4, api.OK)
	notes(t, c, 0, 6, api.OK)
	begins(t, c, api.OK)
	for _, want := range []api.Counts{{Flushes: 1}, {Flushes: 1}, {Fences: 1}, {Stores: 1}, {Flushes: 1}, {Fences: 1}} {
		d := device(t, 10)
		c.Step(d)
		if got := d.Counts(); got != want {
			t.Errorf("the device's counts are %v, want %v", got, want)
		}
	}
	epochs(t, c, 2, 1)
}

func TestR3_NoClock(t *testing.T) {
	var c *Clock
	epochs(t, c, 0, 0)
	for _, thread := range append(noThreads(1), 0, 1, 2, 3) {
		for _, line := range append(farLines(), 0, 1, 257) {
			notes(t, c, thread, line, api.ErrArg)
		}
	}
	owes(t, c)
	begins(t, c, api.ErrArg)
	closing(t, c, 0)
	left(t, c)
	d := device(t, 2)
	refuses(t, c, d, api.ErrArg)
	refuses(t, c, nil, api.ErrArg)
	if d.Counts() != (api.Counts{}) {
		t.Errorf("no clock: the device's counts are %v", d.Counts())
	}
}

// A clock that New did not make, and a device that nvm did not: nothing is promised but an answer.
func TestR1_OtherObjects(t *testing.T) {
	for _, c := range []*Clock{{}, made(t, 1, 0)} {
		c.Note(0, 5)
		c.Begin()
		for range 8 {
			c.Step(&nvm.Dev{})
			c.Closing()
			c.Left()
			c.Owed()
			c.Now()
			c.Durable()
		}
	}
}

// spoil writes over an answer and appends to it.
func spoil(answer []int) {
	for i := range answer {
		answer[i] = -7
	}
	_ = append(answer, -8, -9)
	whole := answer[:cap(answer)]
	for i := range whole {
		whole[i] = -10
	}
}

// Whoever gets an answer may write to it: the clock, later answers and earlier ones stay as they are.
func TestR4_AnswersAreNewMemory(t *testing.T) {
	x := newPair(t, 3, 0, 26)
	for round := range 3 {
		for i := range 20 {
			x.note(i%3, (i*7+round)%26)
			kept := x.c.Owed()
			spoil(x.c.Owed())
			spoil(x.c.Left())
			x.same("an Owed that was written to")
			if !slices.Equal(kept, x.m.owed()) {
				t.Fatalf("an earlier Owed became %v", kept)
			}
		}
		x.begin()
		for len(x.m.remain) > 0 {
			kept := x.c.Left()
			spoil(x.c.Left())
			spoil(x.c.Owed())
			x.same("a Left that was written to")
			if want := x.m.left(); !slices.Equal(kept, want) {
				t.Fatalf("an earlier Left became %v, want %v", kept, want)
			}
			x.step()
			x.same("a step")
		}
	}
}

// An answer stays as it was while the clock goes on.
func TestR4_AnswersStay(t *testing.T) {
	c, d := made(t, 2, 0), device(t, 10)
	notes(t, c, 0, 4, api.OK)
	notes(t, c, 1, 6, api.OK)
	owed := c.Owed()
	notes(t, c, 0, 8, api.OK)
	begins(t, c, api.OK)
	lines := c.Left()
	c.Step(d)
	notes(t, c, 1, 9, api.OK)
	for range 6 {
		c.Step(d)
	}
	begins(t, c, api.OK)
	if !slices.Equal(owed, []int{1, 1}) || !slices.Equal(lines, []int{4, 6, 8}) {
		t.Errorf("the answers became %v and %v", owed, lines)
	}
}

// What is called on one clock is not seen on another, also where both are stepped with one device.
func TestR5_TwoClocks(t *testing.T) {
	a, b := newPair(t, 2, 0, 10), newPair(t, 2, 0, 10)
	b.d, b.want = a.d, a.want
	a.note(0, 3)
	b.same("a Note of another clock")
	a.begin()
	b.same("a Begin of another clock")
	b.note(1, 4)
	b.begin()
	a.same("calls of another clock")
	for len(a.m.remain) > 0 {
		a.step()
		b.same("a step of another clock")
		b.step()
		a.same("a step of another clock")
	}
	a.begin()
	b.same("the next epoch of another clock")
}

// Clocks of several goroutines, each with a device of its own, do not disturb each other.
func TestR5_ManyGoroutines(t *testing.T) {
	var wait sync.WaitGroup
	for g := range 8 {
		wait.Go(func() {
			threads := 1 + g%4
			c, e := New(threads, uint64(g))
			d, code := nvm.New(10 + g)
			if e != api.OK || code != api.OK {
				t.Errorf("New: %d, %d", e, code)
				return
			}
			for epoch := uint64(g) + 1; epoch < 200; epoch++ {
				line := 2 + int(epoch)%8
				d.Store(line, 0, []byte{byte(epoch)})
				notes(t, c, g%threads, line, api.OK)
				begins(t, c, api.OK)
				closing(t, c, epoch)
				for _, act := range []int{1, 2, 3, 1, 2} {
					steps(t, c, d, act)
				}
				epochs(t, c, epoch+1, epoch)
				holds(t, d, line, byte(epoch), byte(epoch))
			}
		})
	}
	wait.Wait()
}
