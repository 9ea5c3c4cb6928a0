package reader

import (
	"math"
	"slices"
	"testing"

	"fusee/api"
)

// visit is a thread that is inside, and the epoch that it announced.
type visit struct {
	thread int
	epoch  uint64
}

// model is the chapter's clock, written another way: the visits that have not ended, in the order in which they began.
type model struct {
	threads int
	now     uint64
	visits  []visit
}

func newModel(threads int) *model { return &model{threads: threads, now: 1} }

// at returns where in the list the visit of thread t is, or -1.
func (m *model) at(t int) int {
	return slices.IndexFunc(m.visits, func(v visit) bool { return v.thread == t })
}

func (m *model) enter(t int) (uint64, api.Errno) {
	switch {
	case t < 0 || t >= m.threads:
		return 0, api.ErrArg
	case m.at(t) >= 0:
		return 0, api.ErrBusy
	}
	m.visits = append(m.visits, visit{t, m.now})
	return m.now, api.OK
}

func (m *model) leave(t int) api.Errno {
	i := m.at(t)
	switch {
	case t < 0 || t >= m.threads:
		return api.ErrArg
	case i < 0:
		return api.ErrIdle
	}
	m.visits = slices.Delete(m.visits, i, i+1)
	return api.OK
}

func (m *model) inside(t int) (uint64, bool) {
	if i := m.at(t); i >= 0 {
		return m.visits[i].epoch, true
	}
	return 0, false
}

// least goes by the order of the visits: epochs only rise, so that the oldest visit has the least.
func (m *model) least() (uint64, bool) {
	if len(m.visits) == 0 {
		return 0, false
	}
	return m.visits[0].epoch, true
}

func (m *model) quiet(e uint64) bool {
	return !slices.ContainsFunc(m.visits, func(v visit) bool { return v.epoch <= e })
}

// asked returns epochs to ask Quiet of: the ends of the numbers, and the neighbours of all that was announced and of the current epoch.
func (m *model) asked() []uint64 {
	epochs := []uint64{0, 1, 1 << 31, 1 << 32, 1<<63 - 1, 1 << 63, math.MaxUint64 - 1, math.MaxUint64, m.now - 1, m.now, m.now + 1}
	for _, v := range m.visits {
		epochs = append(epochs, v.epoch-1, v.epoch, v.epoch+1)
	}
	return epochs
}

// same fails the test if the clock is not as the model says, in all that can be asked of it.
func (m *model) same(t *testing.T, what string, r *Readers) {
	t.Helper()
	if got := r.Now(); got != m.now {
		t.Fatalf("%s: Now is %d, want %d", what, got, m.now)
	}
	for thread := -1; thread <= m.threads; thread++ {
		e, ok := r.Inside(thread)
		if want, wanted := m.inside(thread); e != want || ok != wanted {
			t.Fatalf("%s: Inside(%d) = %d, %v, want %d, %v", what, thread, e, ok, want, wanted)
		}
	}
	e, ok := r.Least()
	if want, wanted := m.least(); e != want || ok != wanted {
		t.Fatalf("%s: Least is %d, %v, want %d, %v", what, e, ok, want, wanted)
	}
	for _, e := range m.asked() {
		if got := r.Quiet(e); got != m.quiet(e) {
			t.Fatalf("%s: Quiet(%d) = %v with %v inside", what, e, got, m.visits)
		}
	}
}

// pair is a clock and its model, called alike.
type pair struct {
	t *testing.T
	r *Readers
	m *model
}

// newPair returns a new clock with its model, having asked that they are the same.
func newPair(t *testing.T, threads int) *pair {
	t.Helper()
	x := &pair{t, made(t, threads), newModel(threads)}
	x.m.same(t, "a new clock", x.r)
	return x
}

func (x *pair) enter(thread int) {
	x.t.Helper()
	e, got := x.r.Enter(thread)
	if want, code := x.m.enter(thread); e != want || got != code {
		x.t.Fatalf("Enter(%d) = %d, %d, want %d, %d", thread, e, got, want, code)
	}
	x.m.same(x.t, "Enter", x.r)
}

func (x *pair) leave(thread int) {
	x.t.Helper()
	got := x.r.Leave(thread)
	if want := x.m.leave(thread); got != want {
		x.t.Fatalf("Leave(%d) = %d, want %d", thread, got, want)
	}
	x.m.same(x.t, "Leave", x.r)
}

func (x *pair) advance() {
	x.t.Helper()
	x.m.now++
	if got := x.r.Advance(); got != x.m.now {
		x.t.Fatalf("Advance is %d, want %d", got, x.m.now)
	}
	x.m.same(x.t, "Advance", x.r)
}

// Every row of six calls, of one thread and of two.
func TestP8_EveryShortRow(t *testing.T) {
	for threads := 1; threads <= 2; threads++ {
		kinds := 1 + 2*threads
		rows := 1
		for range 6 {
			rows *= kinds
		}
		for row := range rows {
			x := newPair(t, threads)
			for range 6 {
				switch kind := row % kinds; {
				case kind == 0:
					x.advance()
				case kind%2 == 1:
					x.enter(kind / 2)
				default:
					x.leave(kind/2 - 1)
				}
				row /= kinds
			}
		}
	}
}

// dice are numbers that look random and are the same in every run.
type dice uint32

func (d *dice) upTo(n int) int {
	*d = *d*1664525 + 1013904223
	return int(uint32(*d)>>8) % n
}

// Long rows of calls, wrong ones among them, with few Advances and with many.
func TestP8_AgainstModel(t *testing.T) {
	for seed := range 80 {
		d := dice(seed)
		threads := 1 + seed%4
		x := newPair(t, threads)
		for range 500 {
			thread := d.upTo(threads+2) - 1
			switch d.upTo(4 + seed%3*3) {
			case 0, 1:
				x.enter(thread)
			case 2:
				x.leave(thread)
			default:
				x.advance()
			}
		}
	}
}

// moment is when something was unlinked: the epoch then, and which threads were inside, by the numbers of their visits (0: not inside).
type moment struct {
	epoch    uint64
	inside   [api.MaxThreads]int
	advances int
	visits   int
}

// watch calls a clock and keeps for each thread the number of its visit and how many Advances came ahead of that, without any epoch: what P8.3 says is told from these alone.
type watch struct {
	r         *Readers
	visit     [api.MaxThreads]int
	behind    [api.MaxThreads]int
	visits    int
	advances  int
	remembers []moment
}

// turn makes one call of the clock, or takes down the moment.
func (w *watch) turn(d *dice, threads int) {
	thread := d.upTo(threads)
	switch d.upTo(5) {
	case 0, 1:
		if _, e := w.r.Enter(thread); e == api.OK {
			w.visits++
			w.visit[thread], w.behind[thread] = w.visits, w.advances
		}
	case 2:
		if w.r.Leave(thread) == api.OK {
			w.visit[thread] = 0
		}
	case 3:
		w.r.Advance()
		w.advances++
	case 4:
		w.remembers = append(w.remembers, moment{w.r.Now(), w.visit, w.advances, w.visits})
	}
}

// holds fails the test if one of the moments is not told as P8.3 says; it returns how often each half of it was asked.
func (w *watch) holds(t *testing.T) (stayed, later int) {
	t.Helper()
	for _, m := range w.remembers {
		held, between := false, false
		for thread, v := range w.visit {
			switch {
			case v == 0:
			case v == m.inside[thread]:
				held = true
			case v <= m.visits:
				t.Fatalf("visit %d of thread %d was not inside at the moment, and is now", v, thread)
			case w.behind[thread] == m.advances:
				// It entered behind the moment, with no Advance between: the promise says nothing of it.
				between = true
			}
		}
		if held {
			stayed++
			if w.r.Quiet(m.epoch) {
				t.Fatalf("Quiet(%d), and a thread that was inside then has not left", m.epoch)
			}
		}
		if !held && !between {
			later++
			if !w.r.Quiet(m.epoch) {
				t.Fatalf("not Quiet(%d), and every thread inside entered behind a later Advance", m.epoch)
			}
		}
	}
	return stayed, later
}

func TestP8_3_Theorem(t *testing.T) {
	stayed, later := 0, 0
	for seed := range 60 {
		d := dice(1000 + seed)
		threads := 1 + seed%4
		w := &watch{r: made(t, threads)}
		for range 300 {
			w.turn(&d, threads)
			a, b := w.holds(t)
			stayed, later = stayed+a, later+b
		}
	}
	if stayed < 1000 || later < 1000 {
		t.Errorf("the halves were asked %d and %d times only", stayed, later)
	}
}
