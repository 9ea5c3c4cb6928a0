package arena

import (
	"bytes"
	"slices"
	"testing"

	"fusee/api"
	"fusee/block"
	"fusee/class"
	"fusee/code"
	"fusee/geom"
	"fusee/ideal"
	"fusee/nvm"
)

// moment is when a block was unlinked: the durable epoch that was not closed yet, and the visits of the threads that were inside then (0: outside).
type moment struct {
	class  int
	epoch  uint64
	visits [api.MaxThreads]int
}

// written is a block as it was published: its lines.
type written struct {
	line  int
	lines []byte
}

// name is what tells a payload from all others.
type name struct{ id, ver uint64 }

// watch plays a store and keeps what P16.5 is told from: the moments of the unlinkings, what was published in each epoch, and in which epoch a payload was removed. Nothing of it comes of R and D.
type watch struct {
	*pair
	dice                     dice
	visits                   int
	visit                    [api.MaxThreads]int
	moments                  map[int]moment
	published                map[uint64][]written
	removed                  map[name]uint64
	reused, closed, canceled int
}

func newWatch(t *testing.T, lines int, seed int) *watch {
	x := newPair(t, lines, api.MaxThreads)
	x.quiet = true
	return &watch{pair: x, dice: dice(seed), moments: map[int]moment{}, published: map[uint64][]written{}, removed: map[name]uint64{}}
}

// persistent returns the persistent copies of so many lines.
func persistent(d *nvm.Dev, line, n int) []byte {
	var all []byte
	for i := range n {
		b, _ := d.Durable(line + i)
		all = append(all, b...)
	}
	return all
}

// clockLine is the number in the persistent copy of the clock line.
func clockLine(d *nvm.Dev) uint64 {
	b, _ := d.Durable(1)
	e, _ := geom.IsClock(b)
	return e
}

// allocated fails the test if a block that was just allocated has a line of one that was unlinked, and that is not safe yet.
func (w *watch) allocated(line, c int) {
	w.t.Helper()
	for old, m := range w.moments {
		if old >= line+class.Span(c) || line >= old+class.Span(m.class) {
			continue
		}
		if e := clockLine(w.a.Dev()); m.epoch > e {
			w.t.Fatalf("line %d is allocated again, which was unlinked in epoch %d, and epoch %d is durable", old, m.epoch, e)
		}
		for thread, visit := range m.visits {
			if visit != 0 && visit == w.visit[thread] {
				w.t.Fatalf("line %d is allocated again, and thread %d is inside as it was when it was unlinked", old, thread)
			}
		}
		w.reused++
		delete(w.moments, old)
	}
}

// publishes publishes what there is room for, and keeps what came of it.
func (w *watch) publishes() {
	w.t.Helper()
	l := w.some(&w.dice)
	for _, c := range l {
		if c.Line >= 0 {
			w.allocated(c.Line, c.Class)
		}
	}
	now := w.a.Clock().Now()
	_, e := w.publish(w.dice.upTo(api.MaxThreads), now, l...)
	for _, c := range l {
		if e != api.OK && c.Line >= 0 {
			w.give(c.Line)
		}
		if e != api.OK || c.Line < 0 {
			continue
		}
		w.published[now] = append(w.published[now], written{c.Line, w.m.bytes(c.Line, class.Span(c.Class))})
		if c.Kind != api.CallEnq && c.Had {
			w.moments[c.Old.Line] = moment{c.Old.Class, now, w.visit}
			w.removed[name{c.Old.ID, c.Old.Ver}] = now
		}
	}
}

// closes takes a step of closing an epoch, and fails the test if an epoch is closed of which something is not persistent.
func (w *watch) closes() {
	w.t.Helper()
	was := w.a.Clock().Durable()
	w.step()
	e := w.a.Clock().Durable()
	if e == was {
		return
	}
	for _, x := range w.published[e] {
		if got := persistent(w.a.Dev(), x.line, len(x.lines)/64); !bytes.Equal(got, x.lines) {
			w.t.Fatalf("epoch %d is durable, and the block at line %d that was published in it is %x, want %x", e, x.line, got, x.lines)
		}
		w.closed++
	}
}

// goesOn makes one call.
func (w *watch) goesOn() {
	w.t.Helper()
	switch w.dice.upTo(14) {
	case 0, 1, 2, 3:
		w.publishes()
	case 4, 5:
		thread := w.dice.upTo(api.MaxThreads)
		if _, e := w.a.Readers().Enter(thread); e == api.OK {
			w.visits++
			w.visit[thread] = w.visits
			w.m.inside[thread] = w.m.epoch
		}
	case 6, 7, 8:
		thread := w.dice.upTo(api.MaxThreads)
		w.leave(thread)
		w.visit[thread] = 0
	case 9:
		w.advance()
	case 10:
		w.begin()
	case 11:
		for range w.dice.upTo(24) {
			w.closes()
		}
	case 12:
		for range w.dice.upTo(5) {
			w.release()
		}
	case 13:
		w.a.Dev().Back(w.dice.upTo(w.m.lines))
	}
}

// numbersOf returns the ID and the Ver that the head of a payload bears.
func numbersOf(line []byte) (name, bool) {
	_, kind, ok := block.Head(line)
	if !ok || kind != api.KindMap && kind != api.KindQueue {
		return name{}, false
	}
	id, _ := code.Get(line, 8, 8)
	ver, _ := code.Get(line, 16, 8)
	return name{id, ver}, true
}

// wholeBlocks returns the blocks that the persistent copies hold, whole and of an epoch that is durable, by their lines.
func wholeBlocks(d *nvm.Dev) map[int]api.Block {
	all := map[int]api.Block{}
	for line := 2; line < d.Lines(); line++ {
		head, _ := d.Durable(line)
		c, kind, ok := block.Head(head)
		if !ok || kind == api.KindDraft || !class.Home(line, c) {
			continue
		}
		if b, ok := block.Decode(persistent(d, line, class.Span(c))); ok && b.Epoch <= clockLine(d) {
			all[line] = b
		}
	}
	return all
}

// isCanceled reports whether one of the blocks has this ID and a greater Ver.
func isCanceled(n name, blocks map[int]api.Block) bool {
	for _, b := range blocks {
		if b.ID == n.id && b.Ver > n.ver {
			return true
		}
	}
	return false
}

// cancels fails the test if a persistent copy has the head of a payload that was removed for good, and no durable block cancels it.
func (w *watch) cancels() {
	w.t.Helper()
	blocks := wholeBlocks(w.a.Dev())
	for line := 2; line < w.m.lines; line++ {
		head, _ := w.a.Dev().Durable(line)
		n, ok := numbersOf(head)
		if !ok {
			continue
		}
		if e, gone := w.removed[n]; !gone || e > w.a.Clock().Durable() {
			continue
		}
		if !isCanceled(n, blocks) {
			w.t.Fatalf("line %d has persistently the payload %v, which was removed, and no durable block has its ID and a greater Ver", line, n)
		}
		w.canceled++
	}
}

// survives fails the test if a cut here, with some of the loose lines kept, does not leave exactly the effects of the epochs up to the one in the clock line, as blocks of which a store can be made.
func (w *watch) survives() {
	w.t.Helper()
	d := w.a.Dev().Copy()
	var keep []int
	for _, line := range d.Loose() {
		if w.dice.upTo(2) == 0 {
			keep = append(keep, line)
		}
	}
	d.Cut(keep)
	blocks := wholeBlocks(d)
	var l []api.Found
	for line, b := range blocks {
		if b.Kind != api.KindAnti && !isCanceled(name{b.ID, b.Ver}, blocks) {
			l = append(l, api.Found{Line: line, Good: true, B: b})
		}
	}
	e := clockLine(d)
	a, code := Over(d, 1, e, l)
	if code != api.OK {
		w.t.Fatalf("a store over what a cut left, %v: %d", l, code)
	}
	if got, want := a.Shelf(), ideal.Replay(w.a.Effects(), e); !sameShelf(got, want) {
		w.t.Fatalf("a cut that kept %v left %v, want the effects up to epoch %d: %v", keep, got, e, want)
	}
}

// Long rows of calls with lines that are written back at any moment: no block comes back too early, what an epoch published is persistent when it is closed, and what was removed stays removed behind every cut.
func TestP16_5_Theorem(t *testing.T) {
	reused, closed, canceled := 0, 0, 0
	for seed := range 40 {
		w := newWatch(t, []int{18, 26, 42, 58}[seed%4], 900+seed)
		for range 300 {
			w.goesOn()
			w.cancels()
			w.survives()
		}
		w.quiet = false
		w.same("the end of the row")
		reused, closed, canceled = reused+w.reused, closed+w.closed, canceled+w.canceled
	}
	if reused < 300 || closed < 1000 || canceled < 10000 {
		t.Errorf("%d blocks were allocated again, %d were closed, %d payloads were canceled: too few", reused, closed, canceled)
	}
}

// The anti at work, told step by step: its payload is scrubbed in the volatile copy only, and a cut brings it back; the anti is still there.
func TestP16_5_AntiOutlivesItsPayload(t *testing.T) {
	x := newPair(t, 10, 1)
	put := x.put("a", "1")
	x.close()
	anti := x.del("a")
	x.close()
	x.advance()
	if _, e := x.release(); e != api.OK {
		t.Fatalf("Release: %d", e)
	}
	left := func(want ...int) {
		t.Helper()
		d := x.a.Dev().Copy()
		d.Cut(nil)
		var lines []int
		for line := range wholeBlocks(d) {
			lines = append(lines, line)
		}
		slices.Sort(lines)
		if !slices.Equal(lines, want) {
			t.Errorf("a cut leaves blocks at %v, want %v", lines, want)
		}
	}
	left(put.Line, anti.Line)
	if _, e := x.release(); e != api.ErrIdle {
		t.Errorf("the anti: %d", e)
	}
	x.close()
	left(anti.Line)
	x.advance()
	if _, e := x.release(); e != api.OK {
		t.Errorf("the anti: %d", e)
	}
	x.close()
	left()
}
