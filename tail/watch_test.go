package tail_test

import (
	"reflect"
	"slices"
	"testing"

	"fusee/api"
	"fusee/arena"
	"fusee/ideal"
	"fusee/point"
	"fusee/tail"
)

// watch steps frames and holds what they do against the abstract store, of which it asks what a call is answered at the step at which the call takes effect.
type watch struct {
	t     *testing.T
	shelf api.Shelf
	want  [api.MaxThreads]api.Answer
}

// newWatch returns a watch of a store that is empty.
func newWatch(t *testing.T) *watch { return &watch{t: t} }

// sameShelf reports whether two are the same, a nil list being an empty one.
func sameShelf(a, b api.Shelf) bool {
	return slices.Equal(a.Pairs, b.Pairs) && slices.Equal(a.Queue, b.Queue)
}

// step steps a frame and fails the test if the store changes other than by a publish that succeeds, if such a publish makes anything else of it than the call's effect, or if the call's answer is another.
func (w *watch) step(a *arena.Arena, who int, f api.Frame) api.Frame {
	w.t.Helper()
	steps := tail.Step
	if isPoint(f.Call) {
		steps = point.Step
	}
	g := steps(a, who, f)
	after, ans := ideal.Apply(w.shelf, f.Call)
	published := f.Phase == api.PhPublish && g.Phase == api.PhLeave && g.Ans.Code == api.OK
	if published {
		ans.Epoch = f.Epoch
	} else {
		after = w.shelf
	}
	if now := a.Shelf(); !sameShelf(now, after) {
		w.t.Fatalf("a step of phase %d of %+v made %q of %q", f.Phase, f.Call, now, w.shelf)
	}
	w.shelf = after
	if published || takesEffect(f, g) {
		w.want[who] = ans
	}
	if g.Phase == api.PhDone {
		w.answered(who, g)
	}
	return g
}

// takesEffect reports whether a call that changes nothing did so by the step from f to g: it is where its search ends.
func takesEffect(f, g api.Frame) bool {
	return f.Phase == api.PhFind && (g.Phase == api.PhLeave || f.Call.Kind == api.CallGet && g.Phase == api.PhRead)
}

// answered fails the test if a call that has ended was not answered as it must be.
func (w *watch) answered(who int, f api.Frame) {
	w.t.Helper()
	want := w.want[who]
	switch e := ideal.Good(f.Call); {
	case e != api.OK:
		want = api.Answer{Code: e}
	case f.Ans.Code == api.ErrNoSpace:
		want = api.Answer{Code: api.ErrNoSpace}
	}
	if !reflect.DeepEqual(f.Ans, want) {
		w.t.Fatalf("%+v was answered with %+v, want %+v", f.Call, f.Ans, want)
	}
	w.want[who] = api.Answer{}
}

// end steps a frame to its end.
func (w *watch) end(a *arena.Arena, who int, f api.Frame) {
	w.t.Helper()
	for range 100 {
		if f.Phase == api.PhDone {
			return
		}
		f = w.step(a, who, f)
	}
	w.t.Fatalf("no end of %+v", f)
}

// dice are numbers that look random and are the same in every run.
type dice uint32

func (d *dice) upTo(n int) int {
	*d = *d*1664525 + 1013904223
	return int(uint32(*d)>>8) % n
}

// one returns one of a list.
func one[T any](d *dice, l []T) T { return l[d.upTo(len(l))] }

// call returns a call, most often of the queue and with a short value, and sometimes one that is not valid.
func (d *dice) call() api.Call {
	key := one(d, []string{"a", "b", "\x00", "\xff", longKey})
	value := text([]int{0, 3, 20, 28, 29, 60, 100, 217, 400}[min(d.upTo(9), d.upTo(9))], byte(d.upTo(256)))
	switch d.upTo(40) {
	case 0:
		key = one(d, []string{"", overKey})
	case 1:
		value = overValue
	}
	e := api.Call{Kind: api.CallEnq, Key: key, Value: value}
	return one(d, []api.Call{e, e, e, deq(), deq(), keyed(deq()), deq(), get(key), put(key, value), del(key)})
}

// busy is several threads on a pair, each with a call.
type busy struct {
	*pair
	d      dice
	watch  *watch
	frames []api.Frame
	// The steps from phase to phase of each kind of call, and how its calls were answered.
	ways    map[[3]int]int
	answers map[api.Errno]int
}

// turn steps a thread, or has the clocks go on, or releases.
func (b *busy) turn() {
	b.t.Helper()
	n := b.d.upTo(3)
	switch b.d.upTo(16) {
	case 0:
		b.both(func(a *arena.Arena) { a.Clock().Begin() })
	case 1, 2:
		b.both(func(a *arena.Arena) {
			for range 6 * n {
				a.Clock().Step(a.Dev())
			}
		})
	case 3:
		b.both(func(a *arena.Arena) { a.Readers().Advance() })
	case 4, 5:
		b.both(func(a *arena.Arena) {
			for range n {
				a.Release()
			}
		})
	default:
		b.steps(b.d.upTo(len(b.frames)), 1+3*n)
	}
	b.same("a turn")
}

// steps steps a thread a few times, with a new call if it has none.
func (b *busy) steps(who, n int) {
	b.t.Helper()
	for range n {
		if b.frames[who].Phase == api.PhDone {
			b.frames[who] = begin(b.d.call())
			return
		}
		f := b.frames[who]
		g := b.watch.step(b.a, who, f)
		model := modelStep
		if isPoint(f.Call) {
			model = point.Step
		}
		if want := model(b.m, who, f); !same(g, want) {
			b.t.Fatalf("Step(%d, %+v) = %+v, want %+v", who, f, g, want)
		}
		b.ways[[3]int{f.Call.Kind, f.Phase, g.Phase}]++
		if g.Phase == api.PhDone {
			b.answers[g.Ans.Code]++
		}
		b.frames[who] = g
	}
}

// finish steps all threads in turn till their calls have ended.
func (b *busy) finish() {
	b.t.Helper()
	for range 100 {
		for who, f := range b.frames {
			if f.Phase != api.PhDone {
				b.steps(who, 1)
			}
		}
	}
	for _, f := range b.frames {
		if f.Phase != api.PhDone || f.Line != -1 {
			b.t.Errorf("a call ended with %+v", f)
		}
	}
	b.same("the end")
	b.private()
	b.inOrder()
}

// inOrder fails the test if values were removed in another order than they were appended, or one twice.
func (b *busy) inOrder() {
	b.t.Helper()
	var pushed, popped []uint64
	for _, e := range b.a.Effects() {
		switch e.Kind {
		case api.EffPush:
			pushed = append(pushed, e.ID)
		case api.EffPop:
			popped = append(popped, e.ID)
		}
	}
	if len(popped) > len(pushed) || !slices.Equal(popped, pushed[:len(popped)]) || b.a.Line().Len() != len(pushed)-len(popped) {
		b.t.Errorf("appended were %v, and removed %v", pushed, popped)
	}
}

// newBusy returns so many threads without a call.
func newBusy(t *testing.T, lines, threads, seed int) *busy {
	t.Helper()
	b := &busy{pair: newPair(t, lines, threads), d: dice(seed), watch: newWatch(t), ways: map[[3]int]int{}, answers: map[api.Errno]int{}}
	for range threads {
		b.frames = append(b.frames, api.Frame{Phase: api.PhDone, Line: -1})
	}
	return b
}

// Many steps of several threads, with closings of epochs and releases in between, held against the model and against the abstract store.
func TestP18_AgainstModel(t *testing.T) {
	ways, answers := map[[3]int]int{}, map[api.Errno]int{}
	for seed := range 60 {
		b := newBusy(t, []int{10, 18, 34, 66, 130}[seed%5], 1+seed/5%4, seed)
		for range 400 {
			b.turn()
		}
		b.finish()
		for way, n := range b.ways {
			ways[way] += n
		}
		for e, n := range b.answers {
			answers[e] += n
		}
	}
	for e, least := range map[api.Errno]int{api.OK: 1000, api.ErrArg: 5, api.ErrTooBig: 30, api.ErrNoSpace: 100} {
		if answers[e] < least {
			t.Errorf("%d calls were answered with %d, want %d at least", answers[e], e, least)
		}
		delete(answers, e)
	}
	if len(answers) > 0 {
		t.Errorf("the answers were %v, too", answers)
	}
	for kind, l := range map[int][]int{api.CallEnq: {3, 7, 34, 36, 44, 45, 55, 56, 67}, api.CallDeq: {1, 12, 16, 22, 23, 25, 34, 36, 45, 51, 56, 67}} {
		for _, way := range l {
			if n := ways[[3]int{kind, way / 10, way % 10}]; n < 10 {
				t.Errorf("a call of kind %d went from phase %d to %d only %d times", kind, way/10, way%10, n)
			}
		}
	}
}

// Values that are all different come off each once, in the order in which their enqs were published, whoever takes them and however the threads take turns.
func TestP18_2_EachValueOnceInOrder(t *testing.T) {
	for seed := range 24 {
		d := dice(seed)
		a, _ := arena.New([]int{42, 130, 258}[seed%3], 4)
		var frames [4]api.Frame
		for who := range frames {
			frames[who] = api.Frame{Phase: api.PhDone}
		}
		var waits []string
		appended, removed := 0, 0
		for i := range 3000 {
			if i%50 == 0 {
				closes(a)
			}
			a.Release()
			who := d.upTo(len(frames))
			f := frames[who]
			if f.Phase == api.PhDone {
				appended++
				frames[who] = begin(one(&d, []api.Call{deq(), enq(text(d.upTo(40), 0) + string(rune('a'+appended)))}))
				continue
			}
			g := tail.Step(a, who, f)
			frames[who] = g
			switch published := f.Phase == api.PhPublish && g.Phase == api.PhLeave && g.Ans.Code == api.OK; {
			case published && g.Call.Kind == api.CallEnq:
				waits = append(waits, g.Call.Value)
			case published:
				if len(waits) == 0 || g.Ans.Value != waits[0] || !g.Ans.Found {
					t.Fatalf("seed %d: %+v, and %q was waiting", seed, g.Ans, waits)
				}
				waits = waits[1:]
				removed++
			case g.Phase == api.PhDone && g.Ans.Code != api.OK && g.Ans.Code != api.ErrNoSpace:
				t.Fatalf("seed %d: %+v", seed, g)
			}
			if a.Line().Len() != len(waits) {
				t.Fatalf("seed %d: %d values wait, want %q", seed, a.Line().Len(), waits)
			}
		}
		if l := a.Shelf().Queue; removed < 50 || !slices.Equal(l, waits) {
			t.Errorf("seed %d: %d values were removed, and left are %q, want %q", seed, removed, l, waits)
		}
	}
}

// A call ends however often it has to begin anew, as soon as nothing comes between its steps any more.
func TestP18_1_EndsBehindManyRetries(t *testing.T) {
	for _, c := range []api.Call{enq(text(60, 1)), deq()} {
		x := newPair(t, 130, 2)
		x.does(enq("0"), enq("1"))
		f := begin(c)
		for i := range 60 {
			f = x.step(1, f)
			if i%3 == 0 {
				x.does(deq(), enq(text(i%20, 3)))
			}
			if f.Phase == api.PhPublish || i%4 == 0 {
				x.round()
			}
			if f.Phase == api.PhDone {
				f = begin(c)
			}
		}
		f, phases := x.end(1, f)
		if f.Ans.Code != api.OK || len(phases) > 12 {
			t.Errorf("%+v: %+v behind %v", c, f.Ans, phases)
		}
		x.private()
	}
}

// The same steps are answered alike, in every run and of two stores by turns.
func TestR5_TheSameAgain(t *testing.T) {
	for seed := range 6 {
		var first *busy
		for range 3 {
			b := newBusy(t, 34, 3, 900+seed)
			b.quiet = true
			for range 200 {
				b.turn()
			}
			if first == nil {
				first = b
			}
			for who := range b.frames {
				if !same(b.frames[who], first.frames[who]) {
					t.Errorf("seed %d: %+v, and first it was %+v", seed, b.frames[who], first.frames[who])
				}
			}
			if !reflect.DeepEqual(stateOf(b.a), stateOf(first.a)) || !reflect.DeepEqual(memoryOf(b.a), memoryOf(first.a)) {
				t.Errorf("seed %d: %+v, and first it was %+v", seed, stateOf(b.a), stateOf(first.a))
			}
		}
	}
}
