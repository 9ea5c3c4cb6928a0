package durable

import (
	"encoding/binary"
	"math"
	"slices"
	"testing"

	"fusee/api"
	"fusee/geom"
	"fusee/nvm"
)

// note is a line that a thread has noted.
type note struct{ thread, line int }

// deed is one thing that remains to be done with the device: a flush of line, a fence, or a store to the clock line. Noted tells the lines of the epoch from the clock line.
type deed struct {
	act, line int
	noted     bool
}

// model is the chapter's clock, written another way: every Note, and all that remains of closing an epoch.
type model struct {
	threads int
	now     uint64
	durable uint64
	notes   []note
	remain  []deed
}

func newModel(threads int, durable uint64) *model {
	return &model{threads: threads, now: durable + 1, durable: durable}
}

func (m *model) note(thread, line int) api.Errno {
	switch {
	case thread < 0 || thread >= m.threads:
		return api.ErrArg
	case line < 0 || line > 257:
		return api.ErrRange
	}
	m.notes = append(m.notes, note{thread, line})
	return api.OK
}

func (m *model) owed() []int {
	counts := make([]int, m.threads)
	for _, n := range m.notes {
		counts[n.thread]++
	}
	return counts
}

func (m *model) begin() api.Errno {
	if len(m.remain) > 0 {
		return api.ErrBusy
	}
	for line := range 258 {
		if slices.ContainsFunc(m.notes, func(n note) bool { return n.line == line }) {
			m.remain = append(m.remain, deed{api.ActFlush, line, true})
		}
	}
	m.remain = append(m.remain, deed{act: api.ActFence}, deed{act: api.ActStore, line: 1}, deed{act: api.ActFlush, line: 1}, deed{act: api.ActFence})
	m.notes = nil
	m.now++
	return api.OK
}

func (m *model) closing() (uint64, bool) {
	if len(m.remain) == 0 {
		return 0, false
	}
	return m.now - 1, true
}

func (m *model) left() []int {
	var lines []int
	for _, x := range m.remain {
		if x.noted {
			lines = append(lines, x.line)
		}
	}
	return lines
}

// step does to d what the chapter says that a step does.
func (m *model) step(d *nvm.Dev) (int, api.Errno) {
	switch {
	case d == nil:
		return 0, api.ErrArg
	case len(m.remain) == 0:
		return 0, api.ErrIdle
	}
	x := m.remain[0]
	m.remain = m.remain[1:]
	switch x.act {
	case api.ActFlush:
		d.Flush(x.line)
	case api.ActFence:
		d.Fence()
	case api.ActStore:
		d.Store(x.line, 0, geom.Clock(m.now-1))
	}
	if len(m.remain) == 0 {
		m.durable = m.now - 1
	}
	return x.act, api.OK
}

// same fails the test if the clock is not as the model says, in all that can be asked of it.
func (m *model) same(t *testing.T, what string, c *Clock) {
	t.Helper()
	if now, durable := c.Now(), c.Durable(); now != m.now || durable != m.durable {
		t.Fatalf("%s: Now %d, Durable %d, want %d, %d", what, now, durable, m.now, m.durable)
	}
	e, ok := c.Closing()
	if want, wanted := m.closing(); e != want || ok != wanted {
		t.Fatalf("%s: Closing is %d, %v, want %d, %v", what, e, ok, want, wanted)
	}
	if got := c.Owed(); !slices.Equal(got, m.owed()) {
		t.Fatalf("%s: Owed is %v, want %v", what, got, m.owed())
	}
	if got := c.Left(); !slices.Equal(got, m.left()) {
		t.Fatalf("%s: Left is %v, want %v", what, got, m.left())
	}
}

// sameDevices fails the test if the two devices can be told apart.
func sameDevices(t *testing.T, what string, got, want *nvm.Dev) {
	t.Helper()
	if got.Counts() != want.Counts() {
		t.Fatalf("%s: the device's counts are %v, want %v", what, got.Counts(), want.Counts())
	}
	if !slices.Equal(got.Way(), want.Way()) {
		t.Fatalf("%s: lines %v are on their way, want %v", what, got.Way(), want.Way())
	}
	for line := range want.Lines() {
		a, _ := got.Load(line)
		b, _ := want.Load(line)
		if !slices.Equal(a, b) {
			t.Fatalf("%s: the volatile copy of line %d is %v, want %v", what, line, a, b)
		}
		a, _ = got.Durable(line)
		b, _ = want.Durable(line)
		if !slices.Equal(a, b) {
			t.Fatalf("%s: the persistent copy of line %d is %v, want %v", what, line, a, b)
		}
	}
}

// pair is a clock with the device that it is stepped with, and the model with its own device, called alike.
type pair struct {
	t *testing.T
	c *Clock
	d *nvm.Dev
	m *model
	// What the device must be like: only the model's steps and the test change it.
	want *nvm.Dev
}

// newPair returns a new clock and a new device of so many lines with their models, having asked that they are the same.
func newPair(t *testing.T, threads int, durable uint64, lines int) *pair {
	t.Helper()
	x := &pair{t, made(t, threads, durable), device(t, lines), newModel(threads, durable), device(t, lines)}
	x.same("a new clock")
	return x
}

// same fails the test if the clock or its device is not as it must be.
func (x *pair) same(what string) {
	x.t.Helper()
	x.m.same(x.t, what, x.c)
	sameDevices(x.t, what, x.d, x.want)
}

func (x *pair) note(thread, line int) {
	x.t.Helper()
	got := x.c.Note(thread, line)
	if want := x.m.note(thread, line); got != want {
		x.t.Fatalf("Note(%d, %d) = %d, want %d", thread, line, got, want)
	}
}

func (x *pair) begin() {
	x.t.Helper()
	got := x.c.Begin()
	if want := x.m.begin(); got != want {
		x.t.Fatalf("Begin = %d, want %d", got, want)
	}
}

func (x *pair) step() {
	x.t.Helper()
	act, got := x.c.Step(x.d)
	if want, code := x.m.step(x.want); act != want || got != code {
		x.t.Fatalf("Step = %d, %d, want %d, %d", act, got, want, code)
	}
}

// stepWithout takes a step without a device.
func (x *pair) stepWithout() {
	x.t.Helper()
	if act, e := x.c.Step(nil); act != 0 || e != api.ErrArg {
		x.t.Fatalf("Step without a device = %d, %d", act, e)
	}
}

// closes steps until the epoch is closed, and asks for everything behind each step.
func (x *pair) closes() {
	x.t.Helper()
	for len(x.m.remain) > 0 {
		x.step()
		x.same("a step")
	}
}

// both does the same to both devices.
func (x *pair) both(do func(d *nvm.Dev)) {
	do(x.d)
	do(x.want)
}

// dice are numbers that look random and are the same in every run.
type dice uint32

func (d *dice) upTo(n int) int {
	*d = *d*1664525 + 1013904223
	return int(uint32(*d)>>8) % n
}

// Every row of up to eight calls, with a device that is stored to and cut between them.
func TestP9_EveryShortRow(t *testing.T) {
	const kinds = 4
	rows := 1
	for length := 1; length <= 8; length++ {
		rows *= kinds
		for row := range rows {
			x := newPair(t, 1, 0, 3)
			for i := range length {
				switch row % kinds {
				case 0:
					x.note(0, 2-i%3)
				case 1:
					x.begin()
				case 2:
					x.step()
				case 3:
					x.both(func(d *nvm.Dev) {
						d.Cut([]int{i % 3})
						d.Store(2-i%3, 7, []byte{byte(i + 1)})
					})
				}
				row /= kinds
			}
			// Each row is the beginning of longer ones, so that it is enough to ask at its end.
			x.same("the row")
		}
	}
}

// disturb does one of the things to the device that others may do between two steps of the clock.
func disturb(d *dice, lines int) func(*nvm.Dev) {
	line, v, kind := d.upTo(lines), byte(1+d.upTo(255)), d.upTo(12)
	return func(dev *nvm.Dev) {
		switch {
		case kind < 7:
			dev.Store(line, int(v)%64, []byte{v})
		case kind < 9:
			dev.Back(line)
		case kind < 10:
			dev.Flush(line)
		case kind < 11:
			dev.Fence()
		default:
			dev.Cut([]int{line, line + 1, line + 5})
		}
	}
}

// Long rows of calls, wrong ones among them, with devices of every kind of size that is stored to, written back and cut between them.
func TestP9_AgainstModel(t *testing.T) {
	sizes := []int{1, 2, 3, 10, 26, 258}
	for seed := range 96 {
		d := dice(seed)
		threads, lines := 1+seed%4, sizes[seed%len(sizes)]
		x := newPair(t, threads, uint64(seed)<<(seed%50), lines)
		for range 400 {
			switch d.upTo(12) {
			case 0, 1, 2:
				x.note(d.upTo(threads), d.upTo(lines+1))
			case 3:
				x.note(d.upTo(threads+2)-1, d.upTo(264)-3)
			case 4:
				x.begin()
			case 5:
				x.stepWithout()
			case 6, 7, 8, 9:
				x.step()
			default:
				x.both(disturb(&d, lines))
			}
			x.same("a call")
		}
		if x.m.durable == uint64(seed)<<(seed%50) {
			t.Errorf("seed %d: no epoch was closed", seed)
		}
	}
}

// stamped is what the line's bytes say of when they were stored: later stores bear a greater number.
func stamped(b []byte) uint64 { return binary.LittleEndian.Uint64(b[8:]) }

// owing is a Note: its epoch, its line, and the stamp that the line had then.
type owing struct {
	epoch uint64
	line  int
	stamp uint64
}

// watch calls a clock and keeps of each Note the stamp that its line had: what P9.4 says is told from these alone, without knowing what a step does.
type watch struct {
	c      *Clock
	d      *nvm.Dev
	clock  uint64
	owes   []owing
	must   [api.MaxLines]uint64
	asked  int
	closed int
}

// turn makes one call of the clock or of the device.
func (w *watch) turn(d *dice, threads int, cuts bool) {
	// The last lines of the device, few enough that each of them is stored to and noted often; the clock line bears no stamp.
	lines := w.d.Lines()
	line := lines - 1 - d.upTo(min(lines-2, 8))
	switch d.upTo(9) {
	case 0, 1:
		w.clock++
		w.d.Store(line, 8, binary.LittleEndian.AppendUint64(nil, w.clock))
	case 2, 3:
		b, _ := w.d.Load(line)
		w.owes = append(w.owes, owing{w.c.Now(), line, stamped(b)})
		w.c.Note(d.upTo(threads), line)
	case 4:
		w.c.Begin()
	case 5:
		w.environment(d, line, cuts)
	default:
		w.c.Step(w.d)
	}
}

// environment writes a line back, or cuts the power.
func (w *watch) environment(d *dice, line int, cuts bool) {
	switch {
	case !cuts:
		w.d.Flush(line)
	case d.upTo(6) > 0:
		w.d.Back(line)
	default:
		w.d.Cut([]int{line})
		// What was noted and is not durable may be lost here: nothing is owed of it any more.
		w.owes = nil
	}
}

// holds fails the test if one of the two halves of P9.4 does not hold.
func (w *watch) holds(t *testing.T) {
	t.Helper()
	now, durable := w.c.Now(), w.c.Durable()
	e, closing := w.c.Closing()
	if closing && (durable != now-2 || e != now-1) || !closing && durable != now-1 {
		t.Fatalf("Now %d, Durable %d, Closing %d, %v", now, durable, e, closing)
	}
	if closing {
		w.closed++
	}
	w.owes = slices.DeleteFunc(w.owes, func(o owing) bool {
		if o.epoch <= durable {
			w.must[o.line] = max(w.must[o.line], o.stamp)
		}
		return o.epoch <= durable
	})
	for line := range w.d.Lines() {
		b, _ := w.d.Durable(line)
		if w.must[line] == 0 {
			continue
		}
		w.asked++
		if stamped(b) < w.must[line] {
			t.Fatalf("Durable is %d; the persistent copy of line %d is of %d, and it was noted with what was stored at %d", durable, line, stamped(b), w.must[line])
		}
	}
}

func TestP9_4_Theorem(t *testing.T) {
	sizes := []int{3, 5, 10, 26, 258}
	for seed := range 90 {
		d := dice(2000 + seed)
		threads := 1 + seed%4
		w := &watch{c: made(t, threads, uint64(seed)), d: device(t, sizes[seed%len(sizes)])}
		for range 500 {
			w.turn(&d, threads, seed%3 > 0)
			w.holds(t)
		}
		if w.asked < 50 || w.closed < 50 {
			t.Errorf("seed %d: the halves were asked %d and %d times only", seed, w.closed, w.asked)
		}
	}
}

// A whole closing, cut behind each of its steps: the number in the clock line never says more than what is persistent.
func TestP9_4_CutBehindEachStep(t *testing.T) {
	for steps := 0; steps <= 7; steps++ {
		x := newPair(t, 1, 0, 10)
		x.both(func(d *nvm.Dev) {
			geom.Format(d)
			for line := 4; line <= 6; line++ {
				d.Store(line, 3, []byte{9})
			}
		})
		for line := 4; line <= 6; line++ {
			x.note(0, line)
		}
		x.begin()
		for range steps {
			x.step()
		}
		x.same("the steps ahead of the cut")
		x.d.Cut(nil)
		e, code := geom.Open(x.d)
		if code != api.OK || e != x.c.Durable() || (e == 1) != (steps == 7) {
			t.Errorf("behind step %d the device is of epoch %d (%d), the clock's Durable is %d", steps, e, code, x.c.Durable())
		}
		for line := 4; line <= 6; line++ {
			if b, _ := x.d.Load(line); (b[3] == 9) != (steps >= 4) {
				t.Errorf("behind step %d line %d has %d", steps, line, b[3])
			}
		}
	}
}

// farLines are numbers that are no line of any device: the neighbours of the lines, and numbers that would be lines if their upper bits were lost.
func farLines() []int {
	return []int{-1, 258, -2, -257, -258, 259, 511, 512, 1 << 16, 1 << 31, 1 << 32, 1<<32 + 5, 1<<61 + 257, -1 << 32, -1<<32 + 5, math.MaxInt, math.MinInt, math.MinInt + 5}
}
