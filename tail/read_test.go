package tail_test

import (
	"fmt"
	"testing"

	"fusee/api"
	"fusee/arena"
	"fusee/block"
)

// reads returns a frame of a deq that has found the link, with none of its lines read, and that holds a block or not.
func reads(k api.Link, line int) api.Frame {
	return set(in(api.PhRead, deq()), func(f *api.Frame) {
		f.Had, f.Old, f.Piece, f.Bytes, f.Line, f.Ans.Value = true, k, 0, nil, line, ""
	})
}

// readOf returns f with its answer read: it goes on to take a block, or to publish with the one that it holds.
func readOf(f api.Frame, value string) api.Frame {
	return set(f, func(f *api.Frame) {
		f.Bytes, f.Ans.Value, f.Phase = nil, value, api.PhPublish
		if f.Line < 0 {
			f.Phase = api.PhTake
		}
	})
}

// A step reads one line, and the last one brings the value and the next phase.
func TestP18_1_ReadLineByLine(t *testing.T) {
	for n, c := range beside() {
		x := newPair(t, 50, 2)
		x.does(enq(text(n, 8)), enq("behind"))
		x.both(func(a *arena.Arena) { a.Pool().Take(0) })
		k := x.first()
		if k.Class != c {
			t.Fatalf("%d bytes: the link is %v", n, k)
		}
		was := x.unchanged("a deq")
		for _, line := range places() {
			for _, found := range []bool{false, true} {
				f, all := set(reads(k, line), func(f *api.Frame) { f.Ans.Found = found }), []byte(nil)
				for i := range 1 << c {
					one, _ := x.a.Dev().Load(k.Line + i)
					all = append(all, one...)
					want := set(f, func(f *api.Frame) { f.Piece, f.Bytes = i+1, all })
					if i+1 == 1<<c {
						want = readOf(want, text(n, 8))
					}
					f = x.becomes(1, f, want)
				}
			}
		}
		was()
	}
}

// The volatile bytes are read, of each line at its step, and they are added to those that are there.
func TestP18_1_ReadOfEachLineAtItsStep(t *testing.T) {
	x := newPair(t, 34, 2)
	x.does(enq(text(200, 1)))
	k := x.first()
	x.both(closes)
	x.both(func(a *arena.Arena) { a.Dev().Store(k.Line+2, 5, []byte("volatile")) })
	f := set(reads(k, -1), func(f *api.Frame) { f.Bytes = []byte("ahead") })
	want := []byte("ahead")
	for i := range 3 {
		if i == 1 {
			// What has been read is not read again.
			x.both(func(a *arena.Arena) { a.Dev().Store(k.Line, 0, make([]byte, 64)) })
		}
		line, _ := x.a.Dev().Load(k.Line + i)
		want = append(want, line...)
		f = x.becomes(1, f, set(f, func(f *api.Frame) { f.Piece, f.Bytes = i+1, want }))
	}
	x.becomes(1, f, stale(set(f, func(f *api.Frame) { f.Piece = 4 })))
}

// stale returns f behind the last line of a block that is not the one that was found: it goes on without a block.
func stale(f api.Frame) api.Frame {
	return set(f, func(f *api.Frame) {
		f.Phase, f.Bytes, f.Ans.Code = api.PhLeave, nil, api.ErrStale
		f.Line = min(f.Line, -1)
	})
}

// strangers returns two stores with all kinds of blocks, and links that are not those of any block of the queue, by what is wrong with them.
func strangers(t *testing.T) (*pair, map[string]api.Link) {
	t.Helper()
	x := newPair(t, 66, 2)
	x.does(enq("0"), enq("1"), put("a", "2"), put("b", "3"), enq(text(60, 0)), del("b"), deq())
	x.both(func(a *arena.Arena) {
		line, _ := a.Pool().Take(0)
		a.Dev().Store(line, 0, block.Draft(0))
	})
	all := x.a.Line().All()
	q, long := all[0], all[1]
	k, _ := x.a.Table().Get("a")
	taken := x.a.Pool().Taken()
	// The blocks of class 0 in the order of their lines: 0, 1, a, b, two antis, the draft.
	draft := taken[6].Line
	anti := x.a.Bag().All()[1].Anti
	if c, kind, ok := headAt(x.a, draft); c != 0 || kind != api.KindDraft || !ok {
		t.Fatalf("at %d there is no draft: %v", draft, taken)
	}
	if _, kind, _ := headAt(x.a, anti); kind != api.KindAnti {
		t.Fatalf("at %d there is no anti", anti)
	}
	return x, map[string]api.Link{
		"another ID":      {ID: q.ID + 1, Ver: q.Ver, Line: q.Line},
		"an earlier ID":   {ID: q.ID - 1, Ver: q.Ver, Line: q.Line},
		"another Ver":     {ID: q.ID, Ver: q.Ver + 1, Line: q.Line},
		"an earlier Ver":  {ID: q.ID, Ver: q.Ver - 1, Line: q.Line},
		"no numbers":      {Line: q.Line},
		"a key":           {Key: "a", ID: q.ID, Ver: q.Ver, Line: q.Line},
		"a key of zero":   {Key: "\x00", ID: q.ID, Ver: q.Ver, Line: q.Line},
		"the map":         k,
		"the map, keyed":  {ID: k.ID, Ver: k.Ver, Line: k.Line},
		"an anti":         {ID: 1, Ver: 7, Line: anti},
		"a draft":         {Line: draft},
		"an empty line":   {ID: q.ID, Ver: q.Ver, Line: 65},
		"the superblock":  {ID: q.ID, Ver: q.Ver, Line: 0},
		"the clock line":  {ID: q.ID, Ver: q.Ver, Line: 1},
		"a line too high": {ID: q.ID, Ver: q.Ver, Line: 66},
		"a line too low":  {ID: q.ID, Ver: q.Ver, Line: -1},
		"too few lines":   {ID: long.ID, Ver: long.Ver, Line: long.Line},
		"a data line":     {ID: long.ID, Ver: long.Ver, Line: long.Line + 1},
		"another block":   {ID: q.ID, Ver: q.Ver, Line: q.Line - 1},
		"too many lines":  {ID: q.ID, Ver: q.Ver, Line: q.Line, Class: 1},
		"too many, long":  {ID: long.ID, Ver: long.Ver, Line: long.Line, Class: 2},
	}
}

func headAt(a *arena.Arena, line int) (int, int, bool) {
	b, _ := a.Dev().Load(line)
	return block.Head(b)
}

// What is read must be a block of the queue with the link's ID, Ver and key: without it the call ends, and the block that it holds goes back.
func TestP18_1_ReadOfAnotherBlock(t *testing.T) {
	x, links := strangers(t)
	q := x.first()
	f := reads(q, -1)
	x.becomes(1, f, readOf(set(f, func(f *api.Frame) { f.Piece = 1 }), "1"))
	for what, k := range links {
		for _, found := range []bool{false, true} {
			was := x.unchanged(what)
			// With a block that it holds, with none, and with a line at which none is allocated.
			mine, _ := x.a.Pool().Take(0)
			x.m.Pool().Take(0)
			for _, line := range []int{mine, -1, -2, 40, 300} {
				f := set(reads(k, line), func(f *api.Frame) {
					f.Ans.Found, f.Ans.Value = found, "of before"
				})
				// All lines but the last one are added to the bytes.
				for f.Piece < 1<<k.Class-1 {
					f = x.step(1, f)
				}
				x.becomes(1, f, stale(set(f, func(f *api.Frame) { f.Piece = 1 << k.Class })))
				if _, ok := x.a.Pool().Of(line); ok {
					t.Errorf("%s: the block at %d was not given back", what, line)
				}
			}
			was()
		}
	}
}

// A value whose lines do not hold it any more: the block was scrubbed, or was reused.
func TestP18_1_ReadOfABlockThatIsGone(t *testing.T) {
	for _, n := range []int{1, 29, 92, 218} {
		for _, line := range []int{-1, 20} {
			x := newPair(t, 50, 2)
			x.does(enq(text(n, 1)))
			f := reads(x.first(), line)
			x.does(deq())
			x.round()
			x.both(func(a *arena.Arena) { a.Pool().Mark(20, 0) })
			last := func() {
				t.Helper()
				x.both(func(a *arena.Arena) {
					if line >= 0 {
						a.Pool().Mark(line, 0)
					}
				})
				g := f
				for i := range 1<<f.Old.Class - 1 {
					g = x.step(1, g)
					if g.Phase != api.PhRead || g.Piece != i+1 {
						t.Fatalf("%+v", g)
					}
				}
				x.becomes(1, g, stale(set(g, func(f *api.Frame) { f.Piece++ })))
				if _, ok := x.a.Pool().Of(20); ok != (line < 0) {
					t.Errorf("the block is allocated: %v", ok)
				}
			}
			last()
			x.does(enq(text(n, 2)))
			if k := x.first(); k.Line != f.Old.Line || k.Class != f.Old.Class {
				t.Fatalf("the block is not reused: %v, %v", k, f.Old)
			}
			last()
		}
	}
}

// A value that was damaged in any one byte is not read, and nothing of it is told.
func TestP18_1_ReadOfDamagedLines(t *testing.T) {
	for at := range 128 {
		x := newPair(t, 18, 1)
		x.does(enq(text(50, 0)))
		k := x.first()
		x.both(func(a *arena.Arena) {
			line, _ := a.Dev().Load(k.Line + at/64)
			a.Dev().Store(k.Line+at/64, at%64, []byte{line[at%64] ^ 0x20})
		})
		f, phases := x.end(0, begin(deq()))
		if f.Ans.Code != api.ErrStale || f.Ans.Found || f.Ans.Value != "" || f.Bytes != nil || fmt.Sprint(phases) != "[1 2 2 6 7]" {
			t.Errorf("byte %d: %+v behind %v", at, f, phases)
		}
		if l := x.a.Pool().Taken(); len(l) != 1 || x.a.Line().Len() != 1 {
			t.Errorf("byte %d: allocated is %v", at, l)
		}
	}
}

// A deq that has found a value holds its block: it stays as it is till the deq has left, whoever removes it.
func TestP18_1_HeldByAReader(t *testing.T) {
	for c, l := range lengths() {
		for read := range 1 << c {
			x := newPair(t, 258, 2)
			x.does(enq(text(l[0], 3)), enq("second"))
			was := x.first()
			f := x.upTo(api.PhRead, 1, begin(deq()))
			for range read {
				f = x.step(1, f)
			}
			x.does(deq())
			for i := range 10 {
				x.does(enq(text(l[0], byte(i))), deq())
				x.round()
			}
			if l := x.a.Bag().All(); len(l) == 0 || l[0].Line != was.Line {
				t.Errorf("in limbo there is %v, and the deq reads at %d", l, was.Line)
			}
			for f.Phase == api.PhRead {
				f = x.step(1, f)
			}
			if f.Phase != api.PhTake || f.Ans.Value != text(l[0], 3) || f.Ans.Code != api.OK {
				t.Errorf("what was read is %+v", f)
			}
			// It was removed by another, so that this one tries again.
			f, _ = x.end(1, f)
			if f.Ans.Code != api.OK || !f.Ans.Found || f.Ans.Value != text(l[0], 9) {
				t.Errorf("%+v", f.Ans)
			}
			x.round()
			x.round()
			x.round()
			x.queue()
			if l := x.a.Pool().Taken(); len(l) != 0 {
				t.Errorf("allocated is %v", l)
			}
		}
	}
}
