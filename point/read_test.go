package point_test

import (
	"fmt"
	"math"
	"reflect"
	"testing"

	"fusee/api"
	"fusee/arena"
	"fusee/block"
)

// reads returns a frame of a get that has found the link, with none of its lines read.
func reads(key string, k api.Link) api.Frame {
	return set(in(api.PhRead, get(key)), func(f *api.Frame) { f.Had, f.Old, f.Piece, f.Bytes, f.Ans = true, k, 0, nil, api.Answer{} })
}

// A step reads one line, and the last one brings the answer.
func TestP17_1_ReadLineByLine(t *testing.T) {
	for _, key := range []string{"a", "\x00", "\xff", longKey, text(16, 3)} {
		for _, n := range []int{0, 1, 27 - len(key), 28 - len(key), 29 - len(key), 91 - len(key), 92 - len(key), 217 - len(key), 218 - len(key), 399, 400} {
			x := newPair(t, 34, 2)
			if n < 0 {
				continue
			}
			x.does(put("b", "other"), put(key, text(n, 8)))
			k := x.link(key)
			f, lines := reads(key, k), []byte(nil)
			was := x.unchanged("a get")
			for i := range 1 << k.Class {
				line, _ := x.a.Dev().Load(k.Line + i)
				lines = append(lines, line...)
				f = x.becomes(1, f, set(f, func(f *api.Frame) {
					f.Piece, f.Bytes = i+1, lines
					if i+1 == 1<<k.Class {
						f.Phase, f.Bytes, f.Ans.Found, f.Ans.Value = api.PhLeave, nil, true, text(n, 8)
					}
				}))
			}
			was()
		}
	}
}

// The volatile bytes are read, of each line at its step, and they are added to those that are there.
func TestP17_1_ReadOfEachLineAtItsStep(t *testing.T) {
	x := newPair(t, 34, 2)
	x.does(put("a", text(200, 1)))
	k := x.link("a")
	x.both(closes)
	x.both(func(a *arena.Arena) { a.Dev().Store(k.Line+2, 5, []byte("volatile")) })
	f := set(reads("a", k), func(f *api.Frame) { f.Bytes = []byte("ahead") })
	want := []byte("ahead")
	for i := range 3 {
		if i == 1 {
			// What has been read is not read again.
			x.both(func(a *arena.Arena) { a.Dev().Store(k.Line, 0, make([]byte, 64)) })
		}
		line, _ := x.a.Dev().Load(k.Line + i)
		want = append(want, line...)
		f = x.becomes(1, f, set(f, func(f *api.Frame) { f.Piece, f.Bytes = i+1, want }))
	}
	x.becomes(1, f, set(f, func(f *api.Frame) { f.Phase, f.Piece, f.Bytes, f.Ans.Code = api.PhLeave, 4, nil, api.ErrStale }))
}

// The link's own fields are what the block is held against, and not the call's.
func TestP17_1_ReadOfAnotherBlock(t *testing.T) {
	x := newPair(t, 34, 2)
	x.does(put("a", "1"), put("b", "2"), put("a", "3"), put("c", text(60, 0)), del("b"))
	x.both(func(a *arena.Arena) {
		line, _ := a.Pool().Take(0)
		a.Publish(0, a.Clock().Now(), []api.Change{{Kind: api.CallEnq, Value: "waits", Line: line}})
		a.Pool().Take(0)
		a.Dev().Store(line+1, 0, block.Draft(0))
	})
	a, c := x.link("a"), x.link("c")
	q, _ := x.a.Line().Head()
	stale := func(f *api.Frame) { f.Phase, f.Bytes, f.Ans.Code = api.PhLeave, nil, api.ErrStale }
	last := func(f api.Frame) api.Frame {
		return set(f, func(f *api.Frame) { f.Piece = 1 << f.Old.Class })
	}
	f := reads("z", a)
	x.becomes(1, f, set(last(f), func(f *api.Frame) { f.Phase, f.Ans.Found, f.Ans.Value = api.PhLeave, true, "3" }))
	anti := x.a.Bag().All()[1].Anti
	for what, k := range map[string]api.Link{
		"another ID":      {Key: "a", ID: a.ID + 1, Ver: a.Ver, Line: a.Line},
		"another Ver":     {Key: "a", ID: a.ID, Ver: a.Ver + 1, Line: a.Line},
		"an earlier Ver":  {Key: "a", ID: a.ID, Ver: 1, Line: a.Line},
		"another key":     {Key: "z", ID: a.ID, Ver: a.Ver, Line: a.Line},
		"no key":          {ID: a.ID, Ver: a.Ver, Line: a.Line},
		"the queue":       q,
		"a queue's key":   {Key: "a", ID: q.ID, Ver: q.Ver, Line: q.Line},
		"an anti":         {ID: 2, Ver: 5, Line: anti},
		"an anti's key":   {Key: "b", ID: 2, Ver: 5, Line: anti},
		"a draft":         {Line: q.Line + 1},
		"an empty line":   {Key: "a", ID: a.ID, Ver: a.Ver, Line: 33},
		"the superblock":  {Key: "a", ID: a.ID, Ver: a.Ver, Line: 0},
		"the clock line":  {Key: "a", ID: a.ID, Ver: a.Ver, Line: 1},
		"a line too high": {Key: "a", ID: a.ID, Ver: a.Ver, Line: 34},
		"a line too low":  {Key: "a", ID: a.ID, Ver: a.Ver, Line: -1},
		"too few lines":   {Key: "c", ID: c.ID, Ver: c.Ver, Line: c.Line},
		"a data line":     {Key: "c", ID: c.ID, Ver: c.Ver, Line: c.Line + 1},
		"the old block":   {Key: "a", ID: 1, Ver: 1, Line: 5},
	} {
		f := reads("a", k)
		if x.step(1, f); !same(x.step(1, f), set(last(f), stale)) {
			t.Errorf("%s: %+v", what, x.step(1, f))
		}
	}
	f = set(reads("a", api.Link{Key: "c", ID: c.ID, Ver: c.Ver, Line: c.Line, Class: 2}), func(f *api.Frame) { f.Piece = 3 })
	x.becomes(1, f, set(last(f), stale))
}

// A link whose block has been scrubbed, or whose lines hold another one, is told to be stale.
func TestP17_1_ReadOfABlockThatIsGone(t *testing.T) {
	x := newPair(t, 34, 2)
	x.does(put("a", "1"))
	f := reads("a", x.link("a"))
	x.does(put("a", "2"))
	x.round()
	stale := set(f, func(f *api.Frame) { f.Phase, f.Piece, f.Ans.Code = api.PhLeave, 1, api.ErrStale })
	x.becomes(1, f, stale)
	x.does(put("b", "3"))
	if k := x.link("b"); k.Line != f.Old.Line {
		t.Fatalf("the block of b is %v", k)
	}
	x.becomes(1, f, stale)
	// Value and Found stay as they are: an answer of before is not this phase's.
	f = set(f, func(f *api.Frame) { f.Ans = in(0, get("a")).Ans })
	x.becomes(1, f, set(f, func(f *api.Frame) { f.Phase, f.Piece, f.Ans.Code = api.PhLeave, 1, api.ErrStale }))
}

// A block that was damaged in any one byte is not read.
func TestP17_1_ReadOfDamagedLines(t *testing.T) {
	for at := range 128 {
		x := newPair(t, 18, 1)
		x.does(put("a", text(50, 0)))
		k := x.link("a")
		x.both(func(a *arena.Arena) {
			line, _ := a.Dev().Load(k.Line + at/64)
			a.Dev().Store(k.Line+at/64, at%64, []byte{line[at%64] ^ 0x20})
		})
		f, _ := x.end(0, begin(get("a")))
		if f.Ans.Code != api.ErrStale || f.Ans.Found || f.Ans.Value != "" || f.Bytes != nil {
			t.Errorf("byte %d: %+v", at, f)
		}
	}
}

func TestP17_1_Leave(t *testing.T) {
	x := newPair(t, 18, 3)
	for _, c := range calls("a", "1") {
		f := in(api.PhLeave, c)
		done := set(f, func(f *api.Frame) { f.Phase = api.PhDone })
		x.both(func(a *arena.Arena) { a.Readers().Enter(0); a.Readers().Enter(1) })
		x.becomes(1, f, done)
		for who := range 3 {
			if _, inside := x.a.Readers().Inside(who); inside != (who == 0) {
				t.Errorf("thread %d is inside: %v", who, inside)
			}
		}
		// One that is not inside, or that does not exist, leaves as well, and its call says nothing of it.
		was := x.unchanged("threads that are not inside")
		for _, who := range append(ints(), 1, 2, 3) {
			x.becomes(who, f, done)
		}
		was()
		x.becomes(0, f, done)
	}
	f := set(in(api.PhLeave, put("a", "1")), func(f *api.Frame) { f.Line, f.Ans.Code = 2, api.ErrNoSpace })
	x.becomes(0, f, set(f, func(f *api.Frame) { f.Phase = api.PhDone }))
}

// phases that are none, and those of other calls.
func noPhases() []int {
	return append([]int{api.PhDone, api.PhSeek, api.PhWalk, api.PhWait, 11, 12, math.MinInt + 5, 1<<32 + 6}, ints()[:3]...)
}

// A frame that has ended, or that is in no phase of these calls, stays as it is.
func TestP17_1_OtherPhases(t *testing.T) {
	x := newPair(t, 18, 2)
	x.does(put("a", "1"))
	x.both(func(a *arena.Arena) { a.Readers().Enter(1) })
	was := x.unchanged("no phase")
	phases := noPhases()
	for _, n := range ints() {
		if n < 0 || n > 7 {
			phases = append(phases, n)
		}
	}
	for _, phase := range phases {
		for _, c := range append(calls("a", "2"), calls("", overValue)...) {
			for _, f := range []api.Frame{in(phase, c), set(begin(c), func(f *api.Frame) { f.Phase = phase })} {
				x.becomes(1, f, f)
				x.becomes(0, f, f)
				x.becomes(-1, f, f)
			}
		}
	}
	was()
}

// A call of another kind, or of none, stays as it is, in every phase.
func TestP17_1_OtherKinds(t *testing.T) {
	x := newPair(t, 18, 2)
	x.does(put("a", "1"))
	x.both(func(a *arena.Arena) { a.Readers().Enter(1) })
	was := x.unchanged("no kind")
	kinds := []int{api.CallEnq, api.CallDeq, api.CallScan, api.CallGroup, api.CallSync, 0, 10, 11}
	for _, kind := range append(kinds, ints()...) {
		for phase := -1; phase <= 11; phase++ {
			c := api.Call{Kind: kind, Key: "a", Value: "2", Group: []api.Call{put("b", "1")}}
			for _, f := range []api.Frame{in(phase, c), set(begin(c), func(f *api.Frame) { f.Phase = phase }), {Call: c, Phase: phase, Old: x.link("a")}} {
				x.becomes(0, f, f)
				x.becomes(1, f, f)
			}
		}
	}
	was()
}

// A phase does not touch what is not told of it: each field in turn has another value.
func TestP17_1_OtherFieldsStay(t *testing.T) {
	for _, c := range calls("a", "1") {
		for phase := range 7 {
			// A store of its own for each frame, since a step may change it.
			steps := func(f api.Frame) api.Frame {
				x := newPair(t, 18, 2)
				x.does(put("a", text(20, 1)))
				x.both(func(a *arena.Arena) { a.Pool().Mark(4, 0) })
				return x.step(0, f)
			}
			f := set(in(phase, c), func(f *api.Frame) {
				f.Pos, f.Past, f.Old, f.Line, f.Class, f.Piece, f.Epoch = "", false, api.Link{Key: "a", ID: 1, Ver: 1, Line: 2}, 4, 0, 0, 1
			})
			g := steps(f)
			for i, change := range changes() {
				if h := steps(set(f, change)); !same(h, set(g, change)) {
					t.Errorf("phase %d, change %d: %+v, want %+v", phase, i, h, set(g, change))
				}
			}
		}
	}
}

// changes are changes of fields that no phase of these calls has a use for.
func changes() []func(f *api.Frame) {
	return []func(f *api.Frame){
		func(f *api.Frame) { f.Level = -5 },
		func(f *api.Frame) { f.At = 1 << 40 },
		func(f *api.Frame) { f.Parts = nil },
		func(f *api.Frame) { f.Parts = []api.Part{{Line: 2, Old: api.Link{Key: "p"}}} },
		func(f *api.Frame) { f.Ans.Hits = []bool{true, true} },
		func(f *api.Frame) { f.Ans.Pairs = nil },
		func(f *api.Frame) { f.Call.To = "\xff" },
		func(f *api.Frame) { f.Call.Group = nil },
		func(f *api.Frame) {
			f.Call.Group = []api.Call{put("a", "1"), {Group: []api.Call{del("b"), {Group: make([]api.Call, 3)}}}}
		},
	}
}

// A second store is not looked at: stores that are the same at first go their own ways.
func TestR5_StoresApart(t *testing.T) {
	x, y := newPair(t, 18, 1), newPair(t, 18, 1)
	y.does(put("a", "1"))
	x.does(put("a", "2"), put("b", "3"))
	if f, g := x.does(get("a")), y.does(get("a")); f.Ans.Value != "2" || g.Ans.Value != "1" {
		t.Errorf("%+v, %+v", f.Ans, g.Ans)
	}
	if l := fmt.Sprint(y.a.Shelf()); l != "{[{a 1}] []}" {
		t.Errorf("%s", l)
	}
	if reflect.DeepEqual(stateOf(x.a), stateOf(y.a)) {
		t.Errorf("%+v", stateOf(x.a))
	}
}
