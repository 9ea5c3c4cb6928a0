package point_test

import (
	"reflect"
	"slices"
	"testing"

	"fusee/api"
	"fusee/arena"
	"fusee/ideal"
	"fusee/point"
)

// watch steps frames and holds what they do against the abstract store, of which it asks what a call is answered at the step at which the call takes effect.
type watch struct {
	t    *testing.T
	want [api.MaxThreads]api.Answer
}

// sameShelf reports whether two are the same, a nil list being an empty one.
func sameShelf(a, b api.Shelf) bool {
	return slices.Equal(a.Pairs, b.Pairs) && slices.Equal(a.Queue, b.Queue)
}

// step steps a frame and fails the test if the map changes other than by a publish that succeeds, if such a publish makes anything else of it than the call's effect, or if the call's answer is another.
func (w *watch) step(a *arena.Arena, who int, f api.Frame) api.Frame {
	w.t.Helper()
	before := a.Shelf()
	g := point.Step(a, who, f)
	after, ans := ideal.Apply(before, f.Call)
	published := f.Phase == api.PhPublish && g.Phase == api.PhLeave && g.Ans.Code == api.OK
	if published {
		ans.Epoch = f.Epoch
	} else {
		after = before
	}
	if now := a.Shelf(); !sameShelf(now, after) {
		w.t.Fatalf("a step of phase %d of %+v made %q of %q", f.Phase, f.Call, now, before)
	}
	// A call that changes nothing takes effect where its search ends.
	searched := f.Phase == api.PhFind && (g.Phase == api.PhRead || g.Phase == api.PhLeave)
	if published || searched {
		w.want[who] = ans
	}
	if g.Phase == api.PhDone {
		w.answered(who, g)
	}
	return g
}

// answered fails the test if a call that has ended was not answered as it must be.
func (w *watch) answered(who int, f api.Frame) {
	w.t.Helper()
	want := w.want[who]
	switch e := ideal.Good(f.Call); {
	case e != api.OK:
		want = api.Answer{Code: e}
	case f.Ans.Code == api.ErrNoSpace:
		want = api.Answer{Code: api.ErrNoSpace}
	}
	if !reflect.DeepEqual(f.Ans, want) {
		w.t.Fatalf("%+v was answered with %+v, want %+v", f.Call, f.Ans, want)
	}
	w.want[who] = api.Answer{}
}

// end steps a frame to its end.
func (w *watch) end(a *arena.Arena, who int, f api.Frame) {
	w.t.Helper()
	for range 100 {
		if f.Phase == api.PhDone {
			return
		}
		f = w.step(a, who, f)
	}
	w.t.Fatalf("no end of %+v", f)
}

// dice are numbers that look random and are the same in every run.
type dice uint32

func (d *dice) upTo(n int) int {
	*d = *d*1664525 + 1013904223
	return int(uint32(*d)>>8) % n
}

// one returns one of a list.
func one[T any](d *dice, l []T) T { return l[d.upTo(len(l))] }

// call returns a call, most often of one of a few keys and with a short value, and sometimes one that is not valid.
func (d *dice) call() api.Call {
	same := keysOf(5, 4)
	key := one(d, []string{same[0], same[1], same[2], same[3], "\x00", "a\x00", "\xff", longKey})
	value := text([]int{0, 3, 12, 20, 28, 60, 100, 217, 400}[min(d.upTo(9), d.upTo(9))], byte(d.upTo(256)))
	if d.upTo(25) == 0 {
		key = one(d, []string{"", overKey})
	}
	if d.upTo(25) == 0 {
		value = overValue
	}
	return one(d, []api.Call{get(key), get(key), put(key, value), put(key, value), put(key, value), del(key), del(key)})
}

// busy is several threads on a pair, each with a call.
type busy struct {
	*pair
	d       dice
	watch   watch
	frames  []api.Frame
	phases  map[int]int
	answers map[api.Errno]int
}

// turn steps a thread, or has the clocks go on, or releases.
func (b *busy) turn() {
	b.t.Helper()
	n := b.d.upTo(3)
	switch b.d.upTo(16) {
	case 0:
		b.both(func(a *arena.Arena) { a.Clock().Begin() })
	case 1, 2:
		b.both(func(a *arena.Arena) {
			for range 6 * n {
				a.Clock().Step(a.Dev())
			}
		})
	case 3:
		b.both(func(a *arena.Arena) { a.Readers().Advance() })
	case 4, 5:
		b.both(func(a *arena.Arena) {
			for range n {
				a.Release()
			}
		})
	default:
		b.steps(b.d.upTo(len(b.frames)), 1+3*n)
	}
	b.same("a turn")
}

// steps steps a thread a few times, with a new call if it has none.
func (b *busy) steps(who, n int) {
	b.t.Helper()
	for range n {
		if b.frames[who].Phase == api.PhDone {
			b.frames[who] = begin(b.d.call())
			return
		}
		f := b.frames[who]
		g := b.watch.step(b.a, who, f)
		if want := modelStep(b.m, who, f); !same(g, want) {
			b.t.Fatalf("Step(%d, %+v) = %+v, want %+v", who, f, g, want)
		}
		b.phases[10*f.Phase+g.Phase]++
		if g.Phase == api.PhDone {
			b.answers[g.Ans.Code]++
		}
		b.frames[who] = g
	}
}

// finish steps all threads in turn till their calls have ended.
func (b *busy) finish() {
	b.t.Helper()
	for range 100 {
		for who, f := range b.frames {
			if f.Phase != api.PhDone {
				b.steps(who, 1)
			}
		}
	}
	for _, f := range b.frames {
		if f.Phase != api.PhDone || f.Line != -1 {
			b.t.Errorf("a call ended with %+v", f)
		}
	}
	b.same("the end")
	b.private()
}

// newBusy returns so many threads without a call.
func newBusy(t *testing.T, lines, threads, seed int) *busy {
	t.Helper()
	b := &busy{pair: newPair(t, lines, threads), d: dice(seed), watch: watch{t: t}, phases: map[int]int{}, answers: map[api.Errno]int{}}
	for range threads {
		b.frames = append(b.frames, api.Frame{Phase: api.PhDone, Line: -1})
	}
	return b
}

// Many steps of several threads, with closings of epochs and releases in between, held against the model and against the abstract store.
func TestP17_AgainstModel(t *testing.T) {
	phases, answers := map[int]int{}, map[api.Errno]int{}
	for seed := range 48 {
		b := newBusy(t, []int{10, 18, 34, 66}[seed%4], 1+seed/4%4, seed)
		for range 400 {
			b.turn()
		}
		b.finish()
		for way, n := range b.phases {
			phases[way] += n
		}
		for e, n := range b.answers {
			answers[e] += n
		}
	}
	for e, least := range map[api.Errno]int{api.OK: 1000, api.ErrArg: 20, api.ErrTooBig: 40, api.ErrNoSpace: 100} {
		if answers[e] < least {
			t.Errorf("%d calls were answered with %d, want %d at least", answers[e], e, least)
		}
		delete(answers, e)
	}
	if len(answers) > 0 {
		t.Errorf("the answers were %v, too", answers)
	}
	for _, way := range []int{1, 7, 11, 12, 13, 15, 16, 22, 26, 34, 36, 44, 45, 51, 56, 67} {
		if phases[way] < 10 {
			t.Errorf("from phase %d it went on to %d only %d times", way/10, way%10, phases[way])
		}
	}
}

// A call ends however often it has to begin anew, as soon as nothing comes between its steps any more.
func TestP17_1_EndsBehindManyRetries(t *testing.T) {
	for _, c := range calls("a", text(30, 1)) {
		x := newPair(t, 66, 2)
		x.does(put("a", "0"))
		f := begin(c)
		for i := range 50 {
			f = x.step(1, f)
			if i%3 == 0 {
				x.does(put("a", text(i%20, 3)))
			}
			if f.Phase == api.PhPublish || i%4 == 0 {
				x.round()
			}
			if f.Phase == api.PhDone {
				f = begin(c)
			}
		}
		f, phases := x.end(1, f)
		if f.Ans.Code != api.OK || len(phases) > 12 {
			t.Errorf("%+v: %+v behind %v", c, f.Ans, phases)
		}
		x.private()
	}
}

// The same steps are answered alike, in every run and of two stores by turns.
func TestR5_TheSameAgain(t *testing.T) {
	for seed := range 6 {
		var first *busy
		for range 3 {
			b := newBusy(t, 34, 3, 900+seed)
			b.quiet = true
			for range 200 {
				b.turn()
			}
			if first == nil {
				first = b
			}
			for who := range b.frames {
				if !same(b.frames[who], first.frames[who]) {
					t.Errorf("seed %d: %+v, and first it was %+v", seed, b.frames[who], first.frames[who])
				}
			}
			if !reflect.DeepEqual(stateOf(b.a), stateOf(first.a)) || !reflect.DeepEqual(memoryOf(b.a), memoryOf(first.a)) {
				t.Errorf("seed %d: %+v, and first it was %+v", seed, stateOf(b.a), stateOf(first.a))
			}
		}
	}
}
