package limbo

import (
	"math"
	"slices"
	"testing"

	"fusee/api"
	"fusee/reader"
)

// slip is an entry that was put in, and whether it went out again.
type slip struct {
	entry api.Entry
	out   bool
}

// model is the chapter's bag with its readers, written another way: every entry that was ever put in, and what each thread that is inside has announced.
type model struct {
	slips  []slip
	now    uint64
	inside map[int]uint64
}

func newModel() *model { return &model{now: 1, inside: map[int]uint64{}} }

func (m *model) all() []api.Entry {
	var all []api.Entry
	for _, s := range m.slips {
		if !s.out {
			all = append(all, s.entry)
		}
	}
	return all
}

func (m *model) put(e api.Entry) api.Errno {
	switch {
	case e.Line < 2 || e.Line > 257, e.Class < 0 || e.Class > 3, e.Anti < -1 || e.Anti > 257:
		return api.ErrArg
	case len(m.all()) == 258:
		return api.ErrFull
	}
	m.slips = append(m.slips, slip{entry: e})
	return api.OK
}

// joins is the join rule: nobody inside has announced R or less, and D is durable.
func (m *model) joins(e api.Entry, durable uint64) bool {
	for _, announced := range m.inside {
		if announced <= e.R {
			return false
		}
	}
	return e.D <= durable
}

// ready returns which slip is the first one that is in the bag and ready, or -1.
func (m *model) ready(durable uint64) int {
	return slices.IndexFunc(m.slips, func(s slip) bool { return !s.out && m.joins(s.entry, durable) })
}

// wants is what Ready and Pop must return.
func (m *model) wants(durable uint64) (api.Entry, bool) {
	if i := m.ready(durable); i >= 0 {
		return m.slips[i].entry, true
	}
	return api.Entry{}, false
}

// asked returns epochs to ask Ready of: the ends of the numbers, the first few, and the neighbours of three of the entries' D.
func (m *model) asked() []uint64 {
	epochs := []uint64{0, 1, 2, 3, math.MaxUint64}
	if all := m.all(); len(all) > 0 {
		for _, i := range []int{0, len(all) / 2, len(all) - 1} {
			epochs = append(epochs, all[i].D-1, all[i].D, all[i].D+1)
		}
	}
	slices.Sort(epochs)
	return slices.Compact(epochs)
}

// same fails the test if the bag is not as the model says, in all that can be asked of it.
func (m *model) same(t *testing.T, what string, b *Bag, r *reader.Readers) {
	t.Helper()
	all := m.all()
	if got := b.All(); !slices.Equal(got, all) {
		t.Fatalf("%s: All is %v, want %v", what, got, all)
	}
	if got := b.Len(); got != len(all) {
		t.Fatalf("%s: Len is %d, want %d", what, got, len(all))
	}
	for _, durable := range m.asked() {
		e, ok := b.Ready(r, durable)
		if want, wanted := m.wants(durable); e != want || ok != wanted {
			t.Fatalf("%s: Ready(%d) = %v, %v, want %v, %v, of %v with %v inside", what, durable, e, ok, want, wanted, all, m.inside)
		}
		if e, ok := b.Ready(nil, durable); e != (api.Entry{}) || ok {
			t.Fatalf("%s: Ready(%d) of no readers = %v, %v", what, durable, e, ok)
		}
	}
	if got := b.All(); !slices.Equal(got, all) {
		t.Fatalf("%s: All is %v behind Ready, and was %v", what, got, all)
	}
}

// pair is a bag with readers, and the model, called alike.
type pair struct {
	t *testing.T
	b *Bag
	r *reader.Readers
	m *model
}

// newPair returns an empty bag and readers of four threads with their model, having asked that they are the same.
func newPair(t *testing.T) *pair {
	t.Helper()
	x := &pair{t, New(), readers(t), newModel()}
	x.same("a new bag")
	return x
}

// same fails the test if the bag is not as it must be.
func (x *pair) same(what string) {
	x.t.Helper()
	x.m.same(x.t, what, x.b, x.r)
}

func (x *pair) put(e api.Entry) api.Errno {
	x.t.Helper()
	got := x.b.Put(e)
	if want := x.m.put(e); got != want {
		x.t.Fatalf("Put(%v) = %d, want %d", e, got, want)
	}
	return got
}

// pop asks Ready first: Pop must return the same.
func (x *pair) pop(durable uint64) (api.Entry, bool) {
	x.t.Helper()
	seen, some := x.b.Ready(x.r, durable)
	e, ok := x.b.Pop(x.r, durable)
	if e != seen || ok != some {
		x.t.Fatalf("Pop(%d) = %v, %v, and Ready had been %v, %v", durable, e, ok, seen, some)
	}
	if want, wanted := x.m.wants(durable); e != want || ok != wanted {
		x.t.Fatalf("Pop(%d) = %v, %v, want %v, %v", durable, e, ok, want, wanted)
	}
	if i := x.m.ready(durable); i >= 0 {
		x.m.slips[i].out = true
	}
	return e, ok
}

// popWithout takes an entry out with no readers, which must not be.
func (x *pair) popWithout(durable uint64) {
	x.t.Helper()
	if e, ok := x.b.Pop(nil, durable); e != (api.Entry{}) || ok {
		x.t.Fatalf("Pop(%d) of no readers = %v, %v", durable, e, ok)
	}
}

// enter reports whether the thread was outside.
func (x *pair) enter(thread int) bool {
	if _, e := x.r.Enter(thread); e != api.OK {
		return false
	}
	x.m.inside[thread] = x.m.now
	return true
}

func (x *pair) leave(thread int) {
	x.r.Leave(thread)
	delete(x.m.inside, thread)
}

func (x *pair) advance() {
	x.r.Advance()
	x.m.now++
}

// Every row of up to six calls, with entries that wait for the readers, for the durable epoch, for both and for none.
func TestP10_EveryShortRow(t *testing.T) {
	const kinds = 8
	rows := 1
	for length := 1; length <= 6; length++ {
		rows *= kinds
		for row := range rows {
			x := newPair(t)
			for i := range length {
				switch kind := row % kinds; kind {
				case 0, 1, 2:
					// The line tells entries apart, and the other two are what they wait for.
					x.put(api.Entry{Line: 2 + i, Class: i % 4, R: uint64(kind % 2), D: uint64(2 - kind), Anti: i - 1})
				case 3, 4:
					x.pop(uint64(kind - 3))
				case 5:
					x.enter(i % 2)
				case 6:
					x.leave(i % 2)
				case 7:
					x.advance()
				}
				row /= kinds
			}
			// Each row is the beginning of longer ones, so that it is enough to ask at its end.
			x.same("the row")
		}
	}
}

// dice are numbers that look random and are the same in every run.
type dice uint32

func (d *dice) upTo(n int) int {
	*d = *d*1664525 + 1013904223
	return int(uint32(*d)>>8) % n
}

// entry returns an entry, at times one that is refused, and at times one with a number at an end. The lines are few, so that there are entries that are equal.
func (d *dice) entry(now uint64) api.Entry {
	e := api.Entry{Line: 2 + d.upTo(6), Class: d.upTo(4), R: now - uint64(d.upTo(3)) + 1, D: uint64(d.upTo(9)), Anti: d.upTo(5) - 1}
	switch d.upTo(40) {
	case 0:
		e.Line = d.upTo(2)
	case 1:
		e.Class = 4 + d.upTo(3)
	case 2:
		e.Anti = -2 - d.upTo(3)
	case 3:
		e.Line = 258 + d.upTo(3)
	case 4:
		e.R = math.MaxUint64
	case 5:
		e.D = math.MaxUint64
	case 6:
		e.R, e.D = 0, 0
	case 7:
		e.Line, e.Anti = 257, 257
	}
	return e
}

// turn makes one call of the pair: Put so often of a hundred, and else one of the others.
func (x *pair) turn(d *dice, puts int) (refused bool) {
	x.t.Helper()
	if d.upTo(100) < puts {
		return x.put(d.entry(x.m.now)) == api.ErrFull
	}
	switch thread := d.upTo(6) - 1; d.upTo(8) {
	case 0, 1:
		x.enter(thread)
	case 2, 3:
		x.leave(thread)
	case 4:
		x.advance()
	case 5:
		x.popWithout(uint64(d.upTo(12)))
	default:
		x.pop(uint64(d.upTo(12)))
	}
	return false
}

// Long rows of calls, wrong ones among them, with bags that stay small and with bags that are full.
func TestP10_AgainstModel(t *testing.T) {
	full := 0
	for seed := range 60 {
		d := dice(seed)
		x := newPair(t)
		// The rows that put the most in are to be full for a while.
		puts, length := 20+seed%3*35, 300+seed%3*100
		for range length {
			if x.turn(&d, puts) {
				full++
			}
			x.same("a call")
		}
	}
	if full < 100 {
		t.Errorf("a full bag was put into %d times only", full)
	}
}

// moment is when a block was unlinked: the epoch that was not yet durable then, and the visits of the threads (0: not inside).
type moment struct {
	epoch  uint64
	visits [api.MaxThreads]int
}

// watch unlinks blocks as the store does and keeps of each the moment, by its place in the row of all entries: what P10.3 says is told from these alone, without R and D.
type watch struct {
	*pair
	visits  int
	visit   [api.MaxThreads]int
	working uint64
	durable uint64
	moments map[api.Entry]moment
	puts    []api.Entry
	gone    int
	blocked int
}

func newWatch(t *testing.T) *watch {
	return &watch{pair: newPair(t), working: 1, moments: map[api.Entry]moment{}}
}

// unlink puts a block into the bag, as of now. No entry is equal to another one, so that what comes out can be told.
func (w *watch) unlink() {
	n := len(w.puts)
	e := api.Entry{Line: 2 + n%256, Class: n / 256 % 4, R: w.r.Now(), D: w.working, Anti: n%5*50 - 1}
	if w.put(e) == api.OK {
		w.moments[e] = moment{w.working, w.visit}
		w.puts = append(w.puts, e)
	}
}

// collect pops, and fails the test if what comes out is not as P10.3 says.
func (w *watch) collect() {
	w.t.Helper()
	e, ok := w.pop(w.durable)
	if !ok {
		if w.b.Len() > 0 {
			w.blocked++
		}
		return
	}
	m := w.moments[e]
	if m.epoch > w.durable {
		w.t.Fatalf("%v was unlinked in epoch %d, and %d is durable", e, m.epoch, w.durable)
	}
	for thread, v := range w.visit {
		if v > 0 && v == m.visits[thread] {
			w.t.Fatalf("%v went out, and thread %d has not left that entered ahead of its unlinking", e, thread)
		}
	}
	// R and D of these entries never decrease.
	if e != w.puts[w.gone] {
		w.t.Fatalf("%v went out ahead of %v", e, w.puts[w.gone])
	}
	w.gone++
}

// turn makes one call, or lets one of the two clocks go on.
func (w *watch) turn(d *dice) {
	w.t.Helper()
	thread := d.upTo(4)
	switch d.upTo(14) {
	case 0, 1:
		if w.enter(thread) {
			w.visits++
			w.visit[thread] = w.visits
		}
	case 2, 3:
		w.leave(thread)
		w.visit[thread] = 0
	case 4:
		w.advance()
	case 5:
		w.working++
	case 6:
		w.durable = min(w.durable+1, w.working-1)
	case 7, 8, 9:
		w.unlink()
	default:
		w.collect()
	}
}

func TestP10_3_Theorem(t *testing.T) {
	gone, blocked := 0, 0
	for seed := range 80 {
		d := dice(5000 + seed)
		w := newWatch(t)
		for range 500 {
			w.turn(&d)
		}
		w.same("the row")
		gone, blocked = gone+w.gone, blocked+w.blocked
	}
	if gone < 1000 || blocked < 1000 {
		t.Errorf("%d entries went out, and %d times none was ready", gone, blocked)
	}
}

// At the end of a row all threads leave and all epochs are closed: all entries go out, in the order in which they came.
func TestP10_3_AllGoOut(t *testing.T) {
	for seed := range 20 {
		d := dice(7000 + seed)
		w := newWatch(t)
		for range 200 {
			w.turn(&d)
		}
		for thread := range api.MaxThreads {
			w.leave(thread)
			w.visit[thread] = 0
		}
		w.durable = w.working
		for left := w.b.Len(); left > 0; left-- {
			w.collect()
			w.same("a Pop")
		}
		if w.gone != len(w.puts) || w.b.Len() != 0 {
			t.Errorf("seed %d: %d of %d went out, %d are left", seed, w.gone, len(w.puts), w.b.Len())
		}
	}
}

// Among entries whose R and D do not decrease, an earlier one is ready whenever a later one is: what is ready is the bag's beginning.
func TestP10_3_InOrder(t *testing.T) {
	for seed := range 40 {
		d := dice(9000 + seed)
		x := newPair(t)
		e := api.Entry{Line: 2, Anti: -1}
		for i := range 12 {
			e.Line, e.R, e.D = 2+i, e.R+uint64(d.upTo(2)), e.D+uint64(d.upTo(2))
			x.put(e)
		}
		for range d.upTo(12) {
			x.advance()
		}
		x.enter(seed % 4)
		first := x.b.All()
		for durable := uint64(0); durable <= e.D; durable++ {
			for {
				got, ok := x.pop(durable)
				if !ok {
					break
				}
				if got != first[0] {
					t.Fatalf("Pop = %v, want %v, the first of all", got, first[0])
				}
				first = first[1:]
				x.same("a Pop")
			}
			if slices.ContainsFunc(first, func(later api.Entry) bool { return x.m.joins(later, durable) }) {
				t.Fatalf("of %v one is ready with %d durable, and did not go out", first, durable)
			}
		}
	}
}
