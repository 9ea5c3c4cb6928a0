package tail_test

import (
	"reflect"
	"slices"
	"testing"

	"fusee/api"
	"fusee/arena"
	"fusee/block"
)

// published returns f behind a publish that is answered with OK.
func published(f api.Frame, found bool) api.Frame {
	return set(f, func(f *api.Frame) {
		f.Phase, f.Ans.Found, f.Ans.Epoch, f.Line = api.PhLeave, found, f.Epoch, -1
	})
}

// retried returns f behind a publish that is answered with ErrRetry.
func retried(f api.Frame, now uint64) api.Frame {
	return set(f, func(f *api.Frame) {
		f.Epoch = now
		if f.Call.Kind == api.CallDeq {
			f.Phase, f.Had, f.Old, f.Ans.Value = api.PhFind, false, api.Link{}, ""
		}
	})
}

// An enq appends its value, of each class, to a queue that is empty or is not.
func TestP18_1_PublishOfAnEnq(t *testing.T) {
	for n, c := range beside() {
		for ahead := range 3 {
			x := newPair(t, 66, 2)
			var want []string
			for i := range ahead {
				want = append(want, text(i, 1))
				x.does(enq(want[i]))
			}
			// What an enq was not asked to look for is not looked at.
			for _, had := range []bool{false, true} {
				f := set(x.ready(keyed(enq(text(n, 4)))), func(f *api.Frame) {
					f.Pos, f.Past, f.Had, f.Old, f.Bytes, f.Ans.Found = "pos", true, had, api.Link{Key: "k", ID: 9, Line: 9}, []byte("bytes"), true
				})
				x.becomes(1, f, published(f, false))
				x.both(func(a *arena.Arena) { a.Readers().Leave(1) })
				want = append(want, text(n, 4))
				all := x.a.Line().All()
				if k := all[len(all)-1]; k.Line != f.Line || k.Class != c || k.Key != "" {
					t.Errorf("%d bytes: the link is %v of a block at %d", n, k, f.Line)
				}
				x.queue(want...)
				x.private()
			}
		}
	}
}

// A deq removes the first value, of each class, and leaves those behind it.
func TestP18_1_PublishOfADeq(t *testing.T) {
	for n := range beside() {
		for behind := range 3 {
			x := newPair(t, 66, 2)
			x.does(enq("gone"), deq(), enq(text(n, 4)))
			var want []string
			for i := range behind {
				want = append(want, text(i, 1))
				x.does(enq(want[i]))
			}
			f := set(x.ready(keyed(deq())), func(f *api.Frame) { f.Bytes, f.Ans.Epoch = []byte("bytes"), 99 })
			if f.Ans.Value != text(n, 4) || f.Ans.Found || !f.Had || f.Old != x.first() {
				t.Fatalf("%d bytes: %+v", n, f)
			}
			x.becomes(1, f, published(f, true))
			x.queue(want...)
			if l := x.a.Bag().All(); len(l) != 2 || l[1].Line != f.Old.Line || l[1].Anti != f.Line {
				t.Errorf("%d bytes: limbo is %v, and the deq had %+v", n, l, f)
			}
			x.private()
		}
	}
}

// Found is what was found, and Epoch the epoch in which it was published, whatever they were.
func TestP18_1_PublishAnswers(t *testing.T) {
	x := newPair(t, 34, 2)
	x.both(func(a *arena.Arena) { closes(a); closes(a); a.Clock().Begin() })
	f := set(x.ready(enq("1")), func(f *api.Frame) {
		f.Ans.Found, f.Ans.Code, f.Ans.Epoch, f.Ans.Value = true, api.ErrStale, 99, "value"
	})
	x.becomes(1, f, set(published(f, false), func(f *api.Frame) { f.Ans.Epoch = 4 }))
	x.both(func(a *arena.Arena) { a.Readers().Leave(1) })
	f = set(x.ready(deq()), func(f *api.Frame) { f.Ans.Found, f.Ans.Code, f.Ans.Value = false, api.ErrStale, "value" })
	x.becomes(1, f, set(published(f, true), func(f *api.Frame) { f.Ans.Epoch = 4 }))
}

// between is what other threads do between the first steps of a call and its publish.
type between struct {
	what string
	do   func(x *pair)
	// Whether it sends back a deq, and an enq.
	deq, enq bool
}

func betweens() []between {
	calls := func(l ...api.Call) func(x *pair) { return func(x *pair) { x.does(l...) } }
	return []between{
		{"the epoch was closed", func(x *pair) { x.both(closes) }, true, true},
		{"the epoch is being closed", func(x *pair) { x.both(func(a *arena.Arena) { a.Clock().Begin() }) }, true, true},
		{"two epochs were closed", func(x *pair) { x.both(closes); x.both(closes) }, true, true},
		{"the epoch was closed and the first value went", func(x *pair) { x.both(closes); x.does(deq()) }, true, true},
		{"the epoch was closed and a value came", func(x *pair) { x.both(closes); x.does(enq("n")) }, true, true},
		{"the first value went", calls(deq()), true, false},
		{"the first value went and a value came", calls(deq(), enq("n")), true, false},
		{"a value came and the first one went", calls(enq("n"), deq()), true, false},
		{"the queue went empty", calls(deq(), deq(), deq()), true, false},
		{"the queue went empty and was filled again", calls(deq(), deq(), enq("same"), enq("n")), true, false},
		{"the queue went empty and was filled with the same", calls(deq(), deq(), enq("same"), enq("last")), true, false},
		{"a value came", calls(enq("n")), false, false},
		{"values came", calls(enq("n"), enq("same"), enq("")), false, false},
		{"keys came and went", calls(put("a", "1"), get("a"), del("a")), false, false},
		{"the readers went on", func(x *pair) { x.both(func(a *arena.Arena) { a.Readers().Advance() }) }, false, false},
	}
}

// What came in between sends a call back, with the block that it holds, or it does not.
func TestP18_1_PublishRetries(t *testing.T) {
	for _, b := range betweens() {
		for _, c := range []api.Call{enq("same"), enq(text(60, 0)), enq(text(300, 0)), deq()} {
			x := newPair(t, 130, 2)
			x.does(enq("same"), enq("last"))
			f := x.ready(c)
			b.do(x)
			x.retries(f, b.what, c.Kind == api.CallDeq && b.deq || c.Kind == api.CallEnq && b.enq)
		}
	}
}

// An enq to an empty queue is not sent back by what becomes of the queue.
func TestP18_1_PublishToAQueueThatWasEmpty(t *testing.T) {
	for _, b := range betweens() {
		x := newPair(t, 130, 2)
		f := x.ready(enq("1"))
		b.do(x)
		x.retries(f, b.what, b.enq)
	}
}

// retries steps a publish that is sent back or is not, and then its call to the end.
func (x *pair) retries(f api.Frame, when string, back bool) {
	x.t.Helper()
	if back {
		was := x.unchanged(when)
		g := x.becomes(1, f, retried(f, x.a.Clock().Now()))
		was()
		if c, ok := x.a.Pool().Of(f.Line); !ok || c != f.Class || g.Line != f.Line {
			x.t.Errorf("%s: the block at %d has class %d, %v", when, f.Line, c, ok)
		}
		f = g
	}
	x.endsBehind(f, when)
}

// endsBehind steps a call to its end, and fails the test if the queue is not as the call makes it.
func (x *pair) endsBehind(f api.Frame, when string) {
	x.t.Helper()
	line, now := f.Line, x.a.Clock().Now()
	want := x.a.Shelf().Queue
	ans := set(f, func(f *api.Frame) { f.Ans.Epoch = now }).Ans
	switch {
	case f.Call.Kind == api.CallEnq:
		want = append(want, f.Call.Value)
	case len(want) > 0:
		ans.Found, ans.Value, want = true, want[0], want[1:]
	default:
		ans.Epoch = f.Ans.Epoch
	}
	f, phases := x.end(1, f)
	if slices.Contains(phases, api.PhTake) || slices.Contains(phases, api.PhWrite) {
		x.t.Errorf("%s: a block was taken or written again: %v", when, phases)
	}
	if !reflect.DeepEqual(f.Ans, ans) || f.Line != -1 {
		x.t.Errorf("%s: %+v, want %+v", when, f, ans)
	}
	if _, ok := x.a.Pool().Of(line); ok != (ans.Found || f.Call.Kind == api.CallEnq) {
		x.t.Errorf("%s: the block at %d is allocated: %v", when, line, ok)
	}
	x.queue(want...)
	x.private()
}

// Each epoch that is closed sends an enq back, and it needs one step more, and no block.
func TestP18_1_EnqStaysInPublish(t *testing.T) {
	for n := range beside() {
		x := newPair(t, 34, 2)
		f := set(x.ready(enq(text(n, 6))), func(f *api.Frame) {
			f.Pos, f.Past, f.Had, f.Old, f.Bytes, f.Piece = "pos", true, true, api.Link{Key: "k", ID: 9, Line: 9}, []byte("bytes"), 7
		})
		for i := range 5 {
			x.round()
			was := x.unchanged("an enq that is sent back")
			f = x.becomes(1, f, set(f, func(f *api.Frame) { f.Epoch = uint64(i + 2) }))
			was()
		}
		x.becomes(1, f, published(f, false))
		x.queue(text(n, 6))
	}
}

// A deq that is sent back again and again has the block of its first try, and in the end the value that is the first then.
func TestP18_1_DeqKeepsItsBlock(t *testing.T) {
	x := newPair(t, 258, 2)
	x.does(enq("0"))
	f := x.ready(deq())
	line := f.Line
	for i := range 12 {
		value := text(i*30, 3)
		switch i % 3 {
		case 0:
			x.does(deq(), enq(value))
		case 1:
			x.does(enq(value), deq())
		case 2:
			x.round()
			x.does(deq(), enq(value))
		}
		f = x.becomes(1, f, retried(f, x.a.Clock().Now()))
		k := x.first()
		f = x.becomes(1, f, set(f, func(f *api.Frame) { f.Phase, f.Had, f.Old, f.Piece, f.Bytes = api.PhRead, true, k, 0, nil }))
		for f.Phase == api.PhRead {
			f = x.step(1, f)
		}
		if f.Phase != api.PhPublish || f.Line != line || f.Ans.Value != value {
			t.Fatalf("try %d: %+v", i, f)
		}
	}
	x.becomes(1, f, published(f, true))
	x.private()
}

// Another error ends the call, with its value emptied, and its block goes back to the pool.
func TestP18_1_PublishFails(t *testing.T) {
	fails := func(x *pair, who int, f api.Frame, code api.Errno) {
		t.Helper()
		was, device := stateOf(x.a), memoryOf(x.a)
		was.Taken = own(slices.DeleteFunc(was.Taken, func(k api.Taken) bool { return k.Line == f.Line }))
		f = set(f, func(f *api.Frame) { f.Ans.Found = true })
		x.becomes(who, f, set(f, func(f *api.Frame) {
			f.Phase, f.Ans.Code, f.Ans.Value, f.Line = api.PhLeave, code, "", -1
		}))
		if now := stateOf(x.a); !reflect.DeepEqual(now, was) || !reflect.DeepEqual(memoryOf(x.a), device) {
			t.Errorf("behind error %d the store is %+v, and was %+v", code, now, was)
		}
	}
	for _, c := range []api.Call{enq(""), enq(text(29, 1)), enq(text(92, 1)), enq(text(218, 1)), deq()} {
		for _, value := range []string{"", "value", "1"} {
			valued := func(f *api.Frame) { f.Ans.Value = value }
			for _, who := range []int{-1, 2, 3, 4, 1 << 32} {
				x := newPair(t, 50, 2)
				x.does(enq("1"))
				fails(x, who, set(x.ready(c), valued), api.ErrArg)
			}
			x := newPair(t, 50, 2)
			x.does(enq("1"))
			f := set(x.ready(c), valued)
			// A block of another class than the call needs.
			line, e := x.a.Pool().Take(f.Class ^ 1)
			other, _ := x.m.Pool().Take(f.Class ^ 1)
			if e != api.OK || other != line {
				t.Fatalf("Take: %d", e)
			}
			fails(x, 1, set(f, func(f *api.Frame) { f.Line, f.Class = line, f.Class^1 }), api.ErrForm)
			fails(x, 1, set(f, func(f *api.Frame) { f.Class++ }), api.ErrArg)
			for _, line := range []int{-1, -2, 0, 1, 300} {
				fails(x, 1, set(f, func(f *api.Frame) { f.Line = line }), api.ErrArg)
			}
		}
	}
	x := newPair(t, 18, 2)
	f := x.ready(enq("1"))
	fails(x, 1, set(f, func(f *api.Frame) { f.Call.Value = overValue }), api.ErrForm)
	// A deq that has found nothing does not come to its publish.
	f = set(x.upTo(api.PhPublish, 0, set(begin(deq()), func(f *api.Frame) { f.Phase = api.PhTake })), func(f *api.Frame) { f.Epoch = 1 })
	fails(x, 0, f, api.ErrArg)
}

// What is published is what the frame has: each of its fields is asked.
func TestP18_1_PublishTakesTheFrame(t *testing.T) {
	epochs := []func(f *api.Frame){
		func(f *api.Frame) { f.Epoch = 0 },
		func(f *api.Frame) { f.Epoch = 2 },
	}
	links := []func(f *api.Frame){
		func(f *api.Frame) { f.Old = api.Link{} },
		func(f *api.Frame) { f.Old.ID++ },
		func(f *api.Frame) { f.Old.Ver++ },
		func(f *api.Frame) { f.Old.Line++ },
		func(f *api.Frame) { f.Old.Class++ },
		func(f *api.Frame) { f.Old.Key = "b" },
	}
	for c, all := range map[int][]func(f *api.Frame){api.CallEnq: epochs, api.CallDeq: append(links, epochs...)} {
		for _, change := range all {
			x := newPair(t, 18, 2)
			x.does(enq("0"))
			f := set(x.ready(api.Call{Kind: c}), change)
			x.becomes(1, f, retried(f, 1))
		}
	}
}

// What a cut of the power leaves of an enq is what was published, once its lines are written back.
func TestP18_2_WhatWasPublishedIsWhole(t *testing.T) {
	for n, c := range beside() {
		x := newPair(t, 34, 1)
		x.does(keyed(enq(text(n, 3))))
		k := x.first()
		x.both(closes)
		x.both(func(a *arena.Arena) { a.Dev().Cut(nil) })
		var lines []byte
		for i := range 1 << c {
			b, _ := x.a.Dev().Durable(k.Line + i)
			lines = append(lines, b...)
		}
		b, ok := block.Decode(lines)
		if want := (api.Block{Class: c, Kind: api.KindQueue, ID: 1, Ver: 1, Epoch: 1, Value: text(n, 3)}); !ok || b != want {
			t.Errorf("left is %+v, %v, want %+v", b, ok, want)
		}
	}
}

// A block that was written in an epoch that is closed by now bears the epoch in which it was published.
func TestP18_2_PublishedInALaterEpoch(t *testing.T) {
	for n, c := range beside() {
		x := newPair(t, 34, 2)
		f := x.ready(enq(text(n, 3)))
		x.round()
		x.both(func(a *arena.Arena) { a.Clock().Begin() })
		f = x.step(1, f)
		x.end(1, f)
		x.both(closes)
		x.both(closes)
		x.both(func(a *arena.Arena) { a.Dev().Cut(nil) })
		var lines []byte
		for i := range 1 << c {
			b, _ := x.a.Dev().Durable(x.first().Line + i)
			lines = append(lines, b...)
		}
		if b, ok := block.Decode(lines); !ok || b.Epoch != 3 || b.Value != text(n, 3) {
			t.Errorf("left is %+v, %v", b, ok)
		}
	}
}
