package point_test

import (
	"reflect"
	"slices"
	"testing"

	"fusee/api"
	"fusee/arena"
	"fusee/block"
)

// retried is what a frame must be behind a publish that is answered with ErrRetry.
func retried(f api.Frame, now uint64) api.Frame {
	return set(f, func(f *api.Frame) {
		f.Phase, f.Epoch, f.Pos, f.Past, f.Had, f.Old = api.PhFind, now, "", false, false, api.Link{}
	})
}

// ready returns a frame of the call that thread 1 has brought to its publish, with its other fields as they come.
func (x *pair) ready(c api.Call) api.Frame {
	x.t.Helper()
	return set(x.upTo(api.PhPublish, 1, begin(c)), func(f *api.Frame) {
		o := in(0, c)
		f.Call.To, f.Call.Group, f.Level, f.At, f.Parts, f.Bytes, f.Ans = o.Call.To, o.Call.Group, o.Level, o.At, o.Parts, o.Bytes, o.Ans
	})
}

// A publish that finds what it was prepared for.
func TestP17_1_PublishOK(t *testing.T) {
	for _, n := range []int{0, 28, 91, 217} {
		for _, present := range []bool{false, true} {
			for _, c := range []api.Call{put("a", text(n, 4)), del("a")} {
				if c.Kind == api.CallDel && !present {
					continue
				}
				x := newPair(t, 50, 2)
				x.does(put("b", "2"))
				if present {
					x.does(put("a", text(n, 9)))
				}
				f := x.ready(c)
				had, old := f.Had, f.Old
				x.becomes(1, f, set(f, func(f *api.Frame) {
					f.Phase, f.Ans.Found, f.Ans.Epoch, f.Line = api.PhLeave, present, 1, -1
				}))
				if had != present {
					t.Errorf("present %v: Had is %v", present, had)
				}
				k, ok := x.a.Table().Get("a")
				if ok != (c.Kind == api.CallPut) || ok && (k.Line != f.Line || k.Class != f.Class) {
					t.Errorf("behind %+v the link is %v, %v", c, k, ok)
				}
				if l := x.a.Bag().All(); present && (len(l) != 1 || l[0].Line != old.Line) || !present && len(l) != 0 {
					t.Errorf("behind %+v limbo is %v", c, l)
				}
				x.private()
			}
		}
	}
}

// Found is what was found, and Epoch the epoch in which it was published, whatever they were.
func TestP17_1_PublishAnswers(t *testing.T) {
	x := newPair(t, 34, 2)
	x.both(func(a *arena.Arena) { closes(a); closes(a); a.Clock().Begin() })
	f := set(x.ready(put("a", "1")), func(f *api.Frame) { f.Ans.Found, f.Ans.Code, f.Ans.Epoch = true, api.ErrStale, 99 })
	x.becomes(1, f, set(f, func(f *api.Frame) {
		f.Phase, f.Ans.Found, f.Ans.Epoch, f.Line = api.PhLeave, false, 4, -1
	}))
	x.both(func(a *arena.Arena) { a.Readers().Leave(1) })
	f = set(x.ready(del("a")), func(f *api.Frame) { f.Ans.Found = false })
	x.becomes(1, f, set(f, func(f *api.Frame) {
		f.Phase, f.Ans.Found, f.Ans.Epoch, f.Line = api.PhLeave, true, 4, -1
	}))
}

// between is what other threads do between the search of a call and its publish.
type between struct {
	what string
	do   func(x *pair)
	// Whether it sends a call back that found its key present, and one that did not.
	present, absent bool
}

// betweens are what may come between, of a key and of others of its bucket.
func betweens(key string, others ...string) []between {
	calls := func(l ...api.Call) func(x *pair) { return func(x *pair) { x.does(l...) } }
	return []between{
		{"the epoch was closed", func(x *pair) { x.both(closes) }, true, true},
		{"the epoch is being closed", func(x *pair) { x.both(func(a *arena.Arena) { a.Clock().Begin() }) }, true, true},
		{"two epochs were closed", func(x *pair) { x.both(closes); x.both(closes) }, true, true},
		{"the epoch was closed and the key was put", func(x *pair) { x.both(closes); x.does(put(key, "n")) }, true, true},
		{"the key was put", calls(put(key, "n")), true, true},
		{"the same value was put", calls(put(key, "same")), true, true},
		{"the key was put twice", calls(put(key, "n"), put(key, "n")), true, true},
		{"the key was deleted", calls(del(key)), true, false},
		{"the key was put and deleted", calls(put(key, "n"), del(key)), true, false},
		{"the key was deleted and put", calls(del(key), put(key, "same")), true, true},
		{"the key was deleted, put and deleted", calls(del(key), put(key, "n"), del(key)), true, false},
		{"the key was read", calls(get(key)), false, false},
		{"other keys were put and deleted", calls(put(others[0], "n"), put(others[1], "n"), del(others[0])), false, false},
		{"the readers went on", func(x *pair) { x.both(func(a *arena.Arena) { a.Readers().Advance() }) }, false, false},
	}
}

// What came in between sends a call back to the beginning of its search, with the block that it holds, or it does not.
func TestP17_1_PublishRetries(t *testing.T) {
	keys := keysOf(6, 3)
	key := keys[2]
	for _, b := range betweens(key, keys[0], keys[1]) {
		for _, present := range []bool{false, true} {
			for _, c := range []api.Call{put(key, "same"), put(key, text(60, 0)), del(key)} {
				if c.Kind == api.CallDel && !present {
					continue
				}
				x := newPair(t, 66, 2)
				x.does(put(keys[0], "1"))
				if present {
					x.does(put(key, "same"))
				}
				f := x.ready(c)
				if f.Pos != keys[0] || !f.Past || f.Had != present {
					t.Fatalf("%+v", f)
				}
				b.do(x)
				if present && b.present || !present && b.absent {
					x.goesBack(f, b.what)
				} else if g := x.step(1, f); g.Phase != api.PhLeave || g.Ans.Found != present {
					t.Errorf("%s, present %v: %+v", b.what, present, g)
				}
			}
		}
	}
}

// goesBack steps a publish that must be answered with ErrRetry, and then its call to the end.
func (x *pair) goesBack(f api.Frame, when string) {
	x.t.Helper()
	was := x.unchanged(when)
	g := x.becomes(1, f, retried(f, x.a.Clock().Now()))
	was()
	if c, ok := x.a.Pool().Of(f.Line); !ok || c != f.Class {
		x.t.Errorf("%s: the block at %d has class %d, %v", when, f.Line, c, ok)
	}
	x.endsBehind(g, when)
}

// endsBehind steps a call that has gone back to its end, and fails the test if the key is not as the call makes it.
func (x *pair) endsBehind(f api.Frame, when string) {
	x.t.Helper()
	_, present := x.a.Table().Get(f.Call.Key)
	f, phases := x.end(1, f)
	if slices.Contains(phases, api.PhTake) || slices.Contains(phases, api.PhWrite) {
		x.t.Errorf("%s: a block was taken or written again: %v", when, phases)
	}
	if f.Ans.Code != api.OK || f.Ans.Found != present {
		x.t.Errorf("%s: %+v, present %v", when, f.Ans, present)
	}
	if k, ok := x.a.Table().Get(f.Call.Key); ok != (f.Call.Kind == api.CallPut) {
		x.t.Errorf("%s: the link is %v, %v", when, k, ok)
	}
	if f.Call.Kind == api.CallPut {
		if g := x.does(get(f.Call.Key)); g.Ans.Value != f.Call.Value {
			x.t.Errorf("%s: the value is %q", when, g.Ans.Value)
		}
	}
	x.private()
}

// Another error ends the call, and its block goes back to the pool.
func TestP17_1_PublishFails(t *testing.T) {
	fails := func(x *pair, who int, f api.Frame, code api.Errno) {
		t.Helper()
		was, device := stateOf(x.a), memoryOf(x.a)
		was.Taken = own(slices.DeleteFunc(was.Taken, func(k api.Taken) bool { return k.Line == f.Line }))
		x.becomes(who, f, set(f, func(f *api.Frame) { f.Phase, f.Ans.Code, f.Line = api.PhLeave, code, -1 }))
		if now := stateOf(x.a); !reflect.DeepEqual(now, was) || !reflect.DeepEqual(memoryOf(x.a), device) {
			t.Errorf("behind error %d the store is %+v, and was %+v", code, now, was)
		}
	}
	for _, n := range []int{0, 28, 91, 217} {
		for _, c := range []api.Call{put("a", text(n, 1)), put("b", text(n, 2)), del("a")} {
			for _, who := range []int{-1, 2, 3, 4, 1 << 32} {
				x := newPair(t, 50, 2)
				x.does(put("a", "1"))
				fails(x, who, x.ready(c), api.ErrArg)
			}
			x := newPair(t, 50, 2)
			x.does(put("a", "1"))
			// A block of another class than the call needs.
			f := x.ready(c)
			line, e := x.a.Pool().Take(f.Class ^ 1)
			other, _ := x.m.Pool().Take(f.Class ^ 1)
			if e != api.OK || other != line {
				t.Fatalf("Take: %d", e)
			}
			fails(x, 1, set(f, func(f *api.Frame) { f.Line, f.Class = line, f.Class^1 }), api.ErrForm)
			fails(x, 1, set(f, func(f *api.Frame) { f.Class++ }), api.ErrArg)
			for _, line := range []int{-1, -2, 0, 1, 300} {
				fails(x, 1, set(f, func(f *api.Frame) { f.Line = line }), api.ErrArg)
			}
		}
	}
	x := newPair(t, 18, 2)
	f := x.ready(put("a", "1"))
	fails(x, 1, set(f, func(f *api.Frame) { f.Call.Value = overValue }), api.ErrForm)
	f = set(x.upTo(api.PhPublish, 0, at(api.PhFind, put("a", "1"))), func(f *api.Frame) { f.Epoch = 1 })
	fails(x, 0, set(f, func(f *api.Frame) { f.Call.Kind = api.CallGet }), api.ErrArg)
}

// What is published is what the frame has: each of its fields is asked.
func TestP17_1_PublishTakesTheFrame(t *testing.T) {
	for _, change := range []func(f *api.Frame){
		func(f *api.Frame) { f.Epoch = 0 },
		func(f *api.Frame) { f.Epoch = 2 },
		func(f *api.Frame) { f.Had = false },
		func(f *api.Frame) { f.Old = api.Link{} },
		func(f *api.Frame) { f.Old.ID++ },
		func(f *api.Frame) { f.Old.Ver++ },
		func(f *api.Frame) { f.Old.Line++ },
		func(f *api.Frame) { f.Old.Class++ },
		func(f *api.Frame) { f.Old.Key = "b" },
		func(f *api.Frame) { f.Call.Key = "b" },
	} {
		for _, c := range []api.Call{put("a", "1"), del("a")} {
			x := newPair(t, 18, 2)
			x.does(put("a", "0"))
			f := set(x.ready(c), change)
			x.becomes(1, f, retried(f, 1))
		}
	}
}

// What a cut of the power leaves of a put is what was published, once its lines are written back.
func TestP17_2_WhatWasPublishedIsWhole(t *testing.T) {
	for _, n := range []int{0, 27, 28, 90, 91, 216, 217, 400} {
		x := newPair(t, 34, 1)
		x.does(put(longKey, text(n, 3)))
		k := x.link(longKey)
		x.both(closes)
		x.both(func(a *arena.Arena) { a.Dev().Cut(nil) })
		var lines []byte
		for i := range 1 << k.Class {
			b, _ := x.a.Dev().Durable(k.Line + i)
			lines = append(lines, b...)
		}
		b, ok := block.Decode(lines)
		if want := (api.Block{Class: k.Class, Kind: api.KindMap, ID: 1, Ver: 1, Epoch: 1, Key: longKey, Value: text(n, 3)}); !ok || b != want {
			t.Errorf("left is %+v, %v, want %+v", b, ok, want)
		}
	}
}
