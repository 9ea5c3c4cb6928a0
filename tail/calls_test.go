package tail_test

import (
	"fmt"
	"reflect"
	"slices"
	"strings"
	"testing"

	"fusee/api"
	"fusee/arena"
	"fusee/class"
)

// The chapter's example, frame by frame.
func TestP18_1_Example(t *testing.T) {
	x := newPair(t, 10, 1)
	f := begin(enq("x"))
	f = x.becomes(0, f, set(f, func(f *api.Frame) { f.Phase, f.Epoch = api.PhTake, 1 }))
	f = x.becomes(0, f, set(f, func(f *api.Frame) { f.Phase, f.Line = api.PhWrite, 2 }))
	f = x.becomes(0, f, set(f, func(f *api.Frame) { f.Phase = api.PhPublish }))
	f = x.becomes(0, f, set(f, func(f *api.Frame) { f.Phase, f.Line, f.Ans.Epoch = api.PhLeave, -1, 1 }))
	f = x.becomes(0, f, set(f, func(f *api.Frame) { f.Phase = api.PhDone }))
	x.becomes(0, f, f)
	link := api.Link{ID: 1, Ver: 1, Line: 2}
	if x.first() != link {
		t.Errorf("the link is %v, want %v", x.first(), link)
	}
	f = begin(deq())
	f = x.becomes(0, f, set(f, func(f *api.Frame) { f.Phase, f.Epoch = api.PhFind, 1 }))
	f = x.becomes(0, f, set(f, func(f *api.Frame) { f.Phase, f.Had, f.Old = api.PhRead, true, link }))
	f = x.becomes(0, f, set(f, func(f *api.Frame) { f.Phase, f.Piece, f.Ans.Value = api.PhTake, 1, "x" }))
	f = x.becomes(0, f, set(f, func(f *api.Frame) { f.Phase, f.Piece, f.Line = api.PhWrite, 0, 3 }))
	f = x.becomes(0, f, set(f, func(f *api.Frame) { f.Phase = api.PhPublish }))
	f = x.becomes(0, f, set(f, func(f *api.Frame) {
		f.Phase, f.Line, f.Ans.Found, f.Ans.Epoch = api.PhLeave, -1, true, 1
	}))
	f = x.becomes(0, f, set(f, func(f *api.Frame) { f.Phase = api.PhDone }))
	x.becomes(0, f, f)
	x.queue()
	want := []api.Effect{{Kind: api.EffPush, Value: "x", ID: 1, Ver: 1, Epoch: 1, Group: 1}, {Kind: api.EffPop, ID: 1, Ver: 2, Epoch: 1, Group: 2}}
	if l := x.a.Effects(); !slices.Equal(l, want) {
		t.Errorf("the effects are %+v, want %+v", l, want)
	}
}

// phasesOf are the phases that a call comes to: so many steps of each.
func phasesOf(steps ...[2]int) []int {
	var l []int
	for _, s := range steps {
		l = append(l, slices.Repeat([]int{s[0]}, s[1])...)
	}
	return l
}

// Calls one behind the other, with what they are answered and the phases that they come to.
func TestP18_1_CallsAlone(t *testing.T) {
	x := newPair(t, 66, 2)
	var (
		nothing = phasesOf([2]int{api.PhFind, 1}, [2]int{api.PhLeave, 1}, [2]int{api.PhDone, 1})
		refused = []int{api.PhDone}
		adding  = func(lines int) []int {
			return phasesOf([2]int{api.PhTake, 1}, [2]int{api.PhWrite, lines}, [2]int{api.PhPublish, 1}, [2]int{api.PhLeave, 1}, [2]int{api.PhDone, 1})
		}
		removing = func(lines int) []int {
			return phasesOf([2]int{api.PhFind, 1}, [2]int{api.PhRead, lines}, [2]int{api.PhTake, 1}, [2]int{api.PhWrite, 1}, [2]int{api.PhPublish, 1}, [2]int{api.PhLeave, 1}, [2]int{api.PhDone, 1})
		}
		value   = func(n int) string { return strings.Repeat("v", n) }
		removed = func(n int) api.Answer { return api.Answer{Found: true, Value: value(n), Epoch: 1} }
		added   = api.Answer{Epoch: 1}
	)
	for _, c := range []struct {
		call   api.Call
		phases []int
		ans    api.Answer
	}{
		{deq(), nothing, api.Answer{}},
		{enq(""), adding(1), added},
		{deq(), removing(1), removed(0)},
		{deq(), nothing, api.Answer{}},
		{enq(value(28)), adding(1), added},
		{enq(value(29)), adding(2), added},
		{keyed(enq(value(28))), adding(1), added},
		{enq(overValue), refused, api.Answer{Code: api.ErrTooBig}},
		{enq(value(91)), adding(2), added},
		{deq(), removing(1), removed(28)},
		{keyed(deq()), removing(2), removed(29)},
		{enq(value(92)), adding(4), added},
		{enq(value(217)), adding(4), added},
		{deq(), removing(1), removed(28)},
		{deq(), removing(2), removed(91)},
		{enq(value(218)), adding(8), added},
		{enq(value(400)), adding(8), added},
		{deq(), removing(4), removed(92)},
		{deq(), removing(4), removed(217)},
		{deq(), removing(8), removed(218)},
		{deq(), removing(8), removed(400)},
		{deq(), nothing, api.Answer{}},
	} {
		f, phases := x.end(1, begin(c.call))
		if !slices.Equal(phases, c.phases) || !reflect.DeepEqual(f.Ans, c.ans) || f.Line != -1 {
			t.Errorf("%+v came to %v and to %+v, want %v and %+v", c.call, phases, f, c.phases, c.ans)
		}
		if e, ok := x.a.Readers().Inside(1); ok {
			t.Errorf("behind %+v the thread is inside, with epoch %d", c.call, e)
		}
		x.private()
	}
	x.round()
	x.round()
	x.round()
	if l := x.a.Pool().Taken(); len(l) != 0 {
		t.Errorf("in the end %v are allocated", l)
	}
}

// Values with all kinds of bytes, of the least and of the greatest lengths, come off as they were appended, in their order, whatever the keys of their calls.
func TestP18_2_Texts(t *testing.T) {
	values := []string{"", "\x00", "\x00\x00", "\xff", "\x80", "\x00\xff\x80", "é", "e\u0301", "\xc3\x28", strings.Repeat("\x00", 400), strings.Repeat("\xff", 400), text(400, 9), text(399, 130), longValue, longValue[1:], strings.Repeat("\x01", 64), strings.Repeat("\x02", 91), "a\n", " ", "same", "same"}
	for n := range beside() {
		values = append(values, text(n, byte(n)))
	}
	x := newPair(t, 258, 1)
	// The queue holds up to ten of them at a time.
	for i := range len(values) + 10 {
		if i < len(values) {
			x.does(api.Call{Kind: api.CallEnq, Key: values[i], Value: values[i]})
		}
		if i >= 10 {
			if f := x.does(deq()); !f.Ans.Found || f.Ans.Value != values[i-10] {
				t.Errorf("deq: %+v, want %q", f.Ans, values[i-10])
			}
		}
		if i%3 == 0 {
			x.round()
		}
	}
	x.queue()
}

// A value of one byte more than may be is refused, and nothing happens.
func TestP18_1_TooBig(t *testing.T) {
	x := newPair(t, 18, 1)
	x.does(enq(longValue))
	was := x.unchanged("values that are too long")
	for _, more := range []string{"v", "\x00", "\xff", "é"} {
		for _, c := range []api.Call{enq(longValue + more), keyed(enq(longValue + more)), enq(strings.Repeat(more, 401))} {
			f, _ := x.end(0, begin(c))
			if want := done(begin(c), api.ErrTooBig); !same(f, want) {
				t.Errorf("an enq of %d bytes: %+v, want %+v", len(c.Value), f, want)
			}
		}
	}
	was()
	if f := x.does(deq()); f.Ans.Value != longValue {
		t.Errorf("%+v", f.Ans)
	}
}

// The document's example 8, for the queue: all slabs are of another class.
func TestP18_1_NoSpace(t *testing.T) {
	for c, l := range lengths() {
		x := newPair(t, 26, 1)
		values := []string{}
		for i := range 24 / class.Span(c) {
			values = append(values, text(l[0], byte(i)))
			x.does(enq(values[i]))
		}
		was := x.unchanged("calls without a block")
		for other, l := range lengths() {
			f, phases := x.end(0, begin(enq(text(l[0], 1))))
			if want := set(begin(f.Call), func(f *api.Frame) {
				f.Phase, f.Epoch, f.Class, f.Ans.Code = api.PhDone, 1, other, api.ErrNoSpace
			}); !same(f, want) || fmt.Sprint(phases) != "[3 6 7]" {
				t.Errorf("an enq of class %d in slabs of class %d: %v, %+v", other, c, phases, f)
			}
		}
		// What was read for it is not told, and it is still the first.
		for range 3 {
			f, phases := x.end(0, begin(deq()))
			if want := (api.Answer{Code: api.ErrNoSpace}); !reflect.DeepEqual(f.Ans, want) || f.Line != -1 || !slices.Equal(phases[class.Span(c):], []int{2, 3, 6, 7}) {
				t.Errorf("a deq without a block for its anti: %v, %+v", phases, f)
			}
		}
		was()
		x.queue(values...)
	}
}

// Two threads remove a value each: the second one's first try fails, and it gets the second value. A third one finds the queue empty.
func TestP18_2_DeqsOfSeveralThreads(t *testing.T) {
	x := newPair(t, 26, 3)
	x.does(enq("first"), enq("second"))
	f, g, h := begin(deq()), begin(deq()), begin(deq())
	for f.Phase != api.PhPublish {
		f, g, h = x.step(0, f), x.step(1, g), x.step(2, h)
	}
	f = x.step(0, f)
	line := g.Line
	g = x.becomes(1, g, retried(g, 1))
	g, phases := x.end(1, g)
	if f.Ans.Value != "first" || g.Ans.Value != "second" || !g.Ans.Found || fmt.Sprint(phases) != "[2 5 6 7]" {
		t.Errorf("%+v, %+v behind %v", f.Ans, g.Ans, phases)
	}
	if l := x.a.Bag().All(); len(l) != 2 || l[1].Anti != line {
		t.Errorf("in limbo is %v", l)
	}
	h, phases = x.end(2, h)
	if !reflect.DeepEqual(h.Ans, api.Answer{}) || h.Line != -1 || fmt.Sprint(phases) != "[1 6 7]" {
		t.Errorf("%+v behind %v", h, phases)
	}
	x.end(0, f)
	x.private()
}

// every calls run once with each row of choices that there is, where choose(n) is a number from 0 to n-1.
func every(run func(choose func(n int) int)) {
	var row, of []int
	for {
		at := 0
		run(func(n int) int {
			if at == len(row) {
				row, of = append(row, 0), append(of, n)
			}
			at++
			return row[at-1]
		})
		for len(row) > 0 && row[len(row)-1] == of[len(row)-1]-1 {
			row, of = row[:len(row)-1], of[:len(row)-1]
		}
		if len(row) == 0 {
			return
		}
		row[len(row)-1]++
	}
}

// Every order of the steps of two calls, in some of which an epoch is closed on the way: each call ends, is answered as the abstract store at one of its steps says, and leaves nothing allocated that is not the store's.
func TestP18_2_EveryOrderOfTwoCalls(t *testing.T) {
	orders := 0
	for _, setup := range [][]api.Call{nil, {enq("0")}, {enq("0"), enq(text(60, 1))}} {
		for _, both := range [][2]api.Call{{enq("1"), enq("2")}, {enq("1"), deq()}, {deq(), deq()}} {
			for _, closing := range []int{-1, 4, 8} {
				stride := 1
				if both[0].Kind == api.CallDeq && closing >= 0 {
					// Two calls that both go back have too many orders to go through all of them.
					stride = 2
				}
				every(func(choose func(n int) int) {
					a, _ := arena.New(18, 2)
					w := newWatch(t)
					for _, c := range setup {
						w.end(a, 0, begin(c))
					}
					w.interleave(a, [2]api.Frame{begin(both[0]), begin(both[1])}, choose, stride, closing)
					orders++
				})
			}
		}
	}
	if orders < 10000 {
		t.Errorf("there were %d orders only", orders)
	}
}

// interleave steps two frames to their ends, each time one that is chosen and so many steps of it, and closes an epoch ahead of step number closing.
func (w *watch) interleave(a *arena.Arena, frames [2]api.Frame, choose func(n int) int, stride, closing int) {
	w.t.Helper()
	for i := 0; i < 100; {
		var pending []int
		for who, f := range frames {
			if f.Phase != api.PhDone {
				pending = append(pending, who)
			}
		}
		if len(pending) == 0 {
			break
		}
		who := pending[choose(len(pending))]
		for n := 0; n < stride && frames[who].Phase != api.PhDone; n++ {
			if i == closing {
				closes(a)
			}
			frames[who] = w.step(a, who, frames[who])
			i++
		}
	}
	if r := a.Rooms(nil); len(r.Taken) != len(r.Live)+len(r.Limbo)+len(r.Antis) {
		w.t.Fatalf("allocated are %v, and linked, in limbo or antis are %v, %v, %v", r.Taken, r.Live, r.Limbo, r.Antis)
	}
	if _, some := a.Readers().Least(); some || frames[0].Phase+frames[1].Phase != 2*api.PhDone {
		w.t.Fatalf("in the end there is %+v", frames)
	}
}
