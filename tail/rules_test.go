package tail_test

import (
	"math"
	"reflect"
	"slices"
	"sync"
	"testing"

	"fusee/api"
	"fusee/arena"
	"fusee/tail"
)

// Without a store, a frame stays as it is, in memory of its own.
func TestR3_NoArena(t *testing.T) {
	for phase := -1; phase <= 11; phase++ {
		for kind := -1; kind <= 10; kind++ {
			for _, who := range []int{-1, 0, 1, math.MaxInt} {
				for _, f := range inAll(phase, api.Call{Kind: kind, Key: "a", Value: "1"}) {
					if g := step(t, nil, who, f); !same(g, f) {
						t.Errorf("%+v became %+v", f, g)
					}
				}
			}
		}
	}
	if g := step(t, nil, 0, api.Frame{}); !same(g, api.Frame{}) {
		t.Errorf("%+v", g)
	}
}

// A store that is none is not stepped on: all that is asked is an end.
func TestR1_AnArenaThatIsNone(t *testing.T) {
	for phase := range 8 {
		for _, c := range []api.Call{enq(text(50, 1)), deq(), keyed(deq())} {
			for _, f := range inAll(phase, c) {
				step(t, new(arena.Arena), 0, f)
			}
		}
	}
}

// wildFrame returns a frame whose fields are any, with some that could be right.
func (d *dice) wildFrame(a *arena.Arena) api.Frame {
	number := func(right ...int) int {
		if d.upTo(3) > 0 {
			return one(d, right)
		}
		return one(d, ints())
	}
	links := append(a.Line().All(), api.Link{}, api.Link{ID: 1, Ver: 1, Line: 2}, api.Link{Key: "a", ID: 1, Ver: 1, Line: 2}, api.Link{Line: number(2), Class: number(0, 1, 2, 3)})
	value := one(d, []string{"", "1", text(90, 0), text(300, 1), longValue, overValue, text(1<<10, 2)})
	c := one(d, []api.Call{enq(value), keyed(enq(value)), deq(), keyed(deq()), {Kind: api.CallDeq, Key: "a", Value: value}})
	f := in(number(0, 1, 2, 3, 4, 5, 6), c)
	f.Epoch = uint64(number(1, 2))
	f.Had, f.Old = d.upTo(2) == 0, one(d, links)
	f.Line, f.Class, f.Piece = number(-1, 2, 3, 4, 5, 10), number(0, 1, 2, 3), number(0, 0, 1, 2, 3)
	f.Bytes = []byte(text(64*d.upTo(9), byte(d.upTo(256))))
	if d.upTo(20) == 0 {
		f.Bytes = make([]byte, 1<<14)
	}
	return f
}

// kept is a frame with nothing but the fields that no phase has a use for.
func kept(f api.Frame) api.Frame {
	return api.Frame{Call: f.Call, Level: f.Level, At: f.At, Parts: f.Parts, Ans: api.Answer{Pairs: f.Ans.Pairs, Hits: f.Ans.Hits}}
}

// Frames that no call comes to, and threads that are none: each step ends and leaves alone what it has no use for, however the store has suffered.
func TestR1_WildFrames(t *testing.T) {
	phases := map[int]int{}
	for seed := range 300 {
		d := dice(seed)
		x := newPair(t, []int{10, 18, 34}[seed%3], 1+seed%4)
		x.does(enq("1"), enq("2"))
		for range 25 {
			f := d.wildFrame(x.a)
			who := one(&d, []int{0, 0, 1, 2, 3, 4, -1, math.MaxInt, math.MinInt})
			// It goes on like a call that came to it.
			for range 1 + d.upTo(12) {
				phases[f.Phase]++
				g := step(t, x.a, who, f)
				if !same(kept(g), kept(f)) {
					t.Fatalf("%+v became %+v", f, g)
				}
				f = g
			}
			x.a.Readers().Leave(0)
		}
	}
	for phase := range 7 {
		if phases[phase] < 100 {
			t.Errorf("there were only %d frames in phase %d", phases[phase], phase)
		}
	}
}

// Each number of a frame at each of its bounds, in each phase.
func TestR1_NumbersAtTheirBounds(t *testing.T) {
	x := newPair(t, 18, 1)
	x.does(enq(text(80, 1)))
	for _, n := range append(ints(), 0, 1, 2, 3) {
		for _, m := range []int{0, 1, -1, math.MaxInt, math.MinInt, math.MaxInt / 63, math.MaxInt/63 + 2, math.MaxInt/64 + 1} {
			for phase := range 7 {
				for _, c := range []api.Call{enq(text(100, 0)), deq()} {
					for _, change := range []func(f *api.Frame){
						func(f *api.Frame) { f.Line, f.Piece = n, m },
						func(f *api.Frame) { f.Piece, f.Line = n, m },
						func(f *api.Frame) { f.Class, f.Piece = n, m },
						func(f *api.Frame) { f.Old.Line, f.Piece = n, m },
						func(f *api.Frame) { f.Old.Line, f.Old.Class, f.Piece = m, n, -1 },
						func(f *api.Frame) { f.Epoch, f.Level, f.At = uint64(n), m, n },
					} {
						step(t, x.a, n, set(in(phase, c), change))
					}
				}
			}
		}
	}
}

// A frame stays as it was, also when those that came of it are stepped on: from each of them the call can be gone through again as if it were the only one.
func TestR4_FramesApart(t *testing.T) {
	for _, n := range []int{1, 60, 400} {
		a, _ := arena.New(34, 2)
		f := begin(enq(text(n, 1)))
		for f.Phase != api.PhDone {
			f = tail.Step(a, 0, f)
		}
		var frames, were []api.Frame
		f = begin(deq())
		f.Call.Group, f.Parts, f.Ans.Pairs, f.Ans.Hits = in(0, f.Call).Call.Group, in(0, f.Call).Parts, in(0, f.Call).Ans.Pairs, []bool{false, true}
		for f.Phase != api.PhDone {
			frames, were = append(frames, f), append(were, plain(f))
			f = tail.Step(a, 1, f)
		}
		// The frames of the first time are stepped again, each of them twice: two frames that came of the same one do not have their bytes together.
		for i := range frames {
			if frames[i].Phase != api.PhRead {
				continue
			}
			g, h := tail.Step(a, 1, frames[i]), tail.Step(a, 1, frames[i])
			want := plain(h)
			fill(g.Bytes, 0x55)
			spoil(tail.Step(a, 1, h))
			if !same(h, want) {
				t.Errorf("%+v, and was %+v", h, want)
			}
		}
		for i := range frames {
			if !same(frames[i], were[i]) {
				t.Errorf("%+v, and was %+v", frames[i], were[i])
			}
		}
		for i := range frames {
			spoil(frames[i])
			for j := i + 1; j < len(frames); j++ {
				if !same(frames[j], were[j]) {
					t.Errorf("frame %d changed with frame %d to %+v", j, i, frames[j])
				}
			}
		}
	}
}

// Lists that have their memory together in a frame have memory of their own in the one that comes of it.
func TestR4_ListsApart(t *testing.T) {
	a, _ := arena.New(18, 1)
	group := []api.Call{put("x", "1"), put("y", "2")}
	for phase := -1; phase < 9; phase++ {
		for _, kind := range []int{1, 2, 3, 4, 5, 7} {
			f := in(phase, api.Call{Kind: kind, Key: "a"})
			f.Call.Group = []api.Call{{Group: group}, {Group: group[:1]}, {Group: group[1:]}}
			g := tail.Step(a, 0, f)
			fill(g.Call.Group[0].Group, strangeCall)
			if !reflect.DeepEqual(g.Call.Group[1].Group, []api.Call{put("x", "1")}) || !reflect.DeepEqual(g.Call.Group[2].Group, []api.Call{put("y", "2")}) || !reflect.DeepEqual(group, []api.Call{put("x", "1"), put("y", "2")}) {
				t.Errorf("phase %d: %+v", phase, g.Call.Group)
			}
			fill(g.Call.Group[1].Group, strangeCall)
			if !reflect.DeepEqual(g.Call.Group[2].Group, []api.Call{put("y", "2")}) {
				t.Errorf("phase %d: %+v", phase, g.Call.Group)
			}
		}
	}
}

// A frame's bytes are not the store's: writing over them changes no line, and a store to a line changes no frame.
func TestR4_BytesAreNotTheStores(t *testing.T) {
	x := newPair(t, 34, 1)
	x.does(enq(text(400, 1)))
	f := x.upTo(api.PhRead, 0, begin(deq()))
	for range 7 {
		f = tail.Step(x.a, 0, f)
		was, before := slices.Clone(f.Bytes), memoryOf(x.a)
		fill(f.Bytes, 0x11)
		if !reflect.DeepEqual(memoryOf(x.a), before) {
			t.Error("the device changed with a frame")
		}
		f.Bytes = slices.Clip(was)
	}
	line, _ := x.a.Dev().Load(f.Old.Line)
	x.a.Dev().Store(f.Old.Line, 0, make([]byte, api.LineBytes))
	if !slices.Equal(f.Bytes[:api.LineBytes], line) {
		t.Errorf("the frame changed with the device to %x", f.Bytes)
	}
	if f = tail.Step(x.a, 0, f); f.Ans.Value != text(400, 1) || f.Phase != api.PhTake {
		t.Errorf("%+v", f)
	}
}

// A second store is not looked at: stores that are the same at first go their own ways.
func TestR5_StoresApart(t *testing.T) {
	x, y := newPair(t, 18, 1), newPair(t, 18, 1)
	y.does(enq("1"))
	x.does(enq("2"), enq("3"))
	if f, g := x.does(deq()), y.does(deq()); f.Ans.Value != "2" || g.Ans.Value != "1" {
		t.Errorf("%+v, %+v", f.Ans, g.Ans)
	}
	if f := y.does(deq()); f.Ans.Found {
		t.Errorf("%+v", f.Ans)
	}
	x.queue("3")
	y.queue()
}

// Several goroutines step the same frames, each on a store of its own.
func TestR5_AtTheSameTime(t *testing.T) {
	group := []api.Call{put("x", "1")}
	script := []api.Call{enq(text(60, 1)), deq(), enq(text(300, 2)), enq("b"), deq(), deq(), deq(), enq("")}
	frames := make([][]api.Frame, 8)
	var all sync.WaitGroup
	for i := range frames {
		all.Go(func() {
			a, _ := arena.New(34, 1)
			for _, c := range script {
				c.Group = group
				f := api.Frame{Call: c, Line: -1}
				for f.Phase != api.PhDone {
					f = tail.Step(a, 0, f)
					frames[i] = append(frames[i], f)
				}
			}
		})
	}
	all.Wait()
	for i, l := range frames {
		if len(l) < len(script) || !reflect.DeepEqual(l, frames[0]) {
			t.Errorf("goroutine %d: %+v, and the first one %+v", i, l, frames[0])
		}
	}
}

// Values as long as may be in scripts of thousands of steps: the queue grows and shrinks, and each step takes its time only.
func TestR1_ManySteps(t *testing.T) {
	a, _ := arena.New(258, 1)
	runs := func(c api.Call) api.Answer {
		f := begin(c)
		for f.Phase != api.PhDone {
			f = tail.Step(a, 0, f)
		}
		return f.Ans
	}
	for i := range 2000 {
		if ans := runs(enq(text(i%401, byte(i)))); ans.Code != api.OK {
			t.Fatalf("enq %d: %+v", i, ans)
		}
		if i >= 10 {
			j := i - 10
			if ans := runs(deq()); ans.Value != text(j%401, byte(j)) || !ans.Found {
				t.Fatalf("deq %d: %+v", j, ans)
			}
		}
		closes(a)
		for {
			if _, e := a.Release(); e != api.OK {
				break
			}
		}
	}
	if l := a.Shelf().Queue; len(l) != 10 || l[9] != text(1999%401, 1999%256) {
		t.Errorf("the queue is %q", l)
	}
}
