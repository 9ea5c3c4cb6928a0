package point_test

import (
	"fmt"
	"math"
	"reflect"
	"testing"

	"fusee/api"
	"fusee/arena"
	"fusee/block"
	"fusee/class"
	"fusee/ideal"
	"fusee/place"
)

// unchanged returns a function that fails the test if the store is not as it is now.
func (x *pair) unchanged(when string) func() {
	was, device := stateOf(x.a), memoryOf(x.a)
	return func() {
		x.t.Helper()
		if now := stateOf(x.a); !reflect.DeepEqual(now, was) {
			x.t.Errorf("%s: the store is %+v, and was %+v", when, now, was)
		}
		if !reflect.DeepEqual(memoryOf(x.a), device) {
			x.t.Errorf("%s: the device is not as it was", when)
		}
	}
}

// A call that is not valid ends at once with the error of Good, and the thread does not get in.
func TestP17_1_EnterOfACallThatIsNotValid(t *testing.T) {
	x := newPair(t, 10, 2)
	x.both(func(a *arena.Arena) { a.Readers().Enter(1) })
	was := x.unchanged("calls that are not valid")
	for _, c := range []struct {
		call api.Call
		code api.Errno
	}{
		{get(""), api.ErrArg}, {put("", ""), api.ErrArg}, {put("", "v"), api.ErrArg}, {del(""), api.ErrArg},
		{put("", overValue), api.ErrArg},
		{get(overKey), api.ErrTooBig}, {put(overKey, ""), api.ErrTooBig}, {del(overKey), api.ErrTooBig},
		{put("a", overValue), api.ErrTooBig}, {put(overKey, overValue), api.ErrTooBig}, {put(longKey, overValue), api.ErrTooBig}, {put(overKey, longValue), api.ErrTooBig},
	} {
		if e := ideal.Good(c.call); e != c.code {
			t.Fatalf("Good is %d", e)
		}
		// The call is asked first: it does not matter who calls.
		for _, who := range append(ints(), 0, 1) {
			for _, f := range []api.Frame{begin(c.call), in(api.PhEnter, c.call)} {
				x.becomes(who, f, set(f, func(f *api.Frame) { f.Phase, f.Ans.Code = api.PhDone, c.code }))
			}
		}
	}
	was()
}

// What is not asked of a call of its kind may be anything.
func TestP17_1_EnterIgnoresOtherFields(t *testing.T) {
	x := newPair(t, 10, 1)
	for _, c := range []api.Call{
		{Kind: api.CallGet, Key: longKey, Value: overValue, To: overKey, Group: []api.Call{{Kind: 9}}},
		{Kind: api.CallDel, Key: longKey, Value: overValue, To: overKey, Group: make([]api.Call, 5)},
		{Kind: api.CallPut, Key: longKey, Value: longValue, To: overKey, Group: []api.Call{put("a", ""), del("a")}},
	} {
		f := begin(c)
		x.becomes(0, f, set(f, func(f *api.Frame) { f.Phase, f.Epoch = api.PhFind, 1 }))
		x.both(func(a *arena.Arena) { a.Readers().Leave(0) })
	}
}

func TestP17_1_EnterOfAThreadThatMayNot(t *testing.T) {
	for threads := 1; threads <= api.MaxThreads; threads++ {
		x := newPair(t, 10, threads)
		for _, c := range calls("a", "1") {
			for _, f := range []api.Frame{begin(c), in(api.PhEnter, c)} {
				was := x.unchanged("threads that are none")
				for _, who := range append(ints(), threads, threads+1) {
					if who >= 0 && who < threads {
						continue
					}
					x.becomes(who, f, set(f, func(f *api.Frame) { f.Phase, f.Ans.Code = api.PhDone, api.ErrArg }))
				}
				was()
				for who := range threads {
					x.becomes(who, f, set(f, func(f *api.Frame) { f.Phase, f.Epoch = api.PhFind, 1 }))
					was := x.unchanged("a thread that is inside")
					x.becomes(who, f, set(f, func(f *api.Frame) { f.Phase, f.Ans.Code = api.PhDone, api.ErrBusy }))
					was()
				}
				for who := range threads {
					x.both(func(a *arena.Arena) { a.Readers().Leave(who) })
				}
			}
		}
	}
}

// The epoch is the clock's, closed or being closed, and what the thread announces is the readers'.
func TestP17_1_EnterAsTheClocksHaveIt(t *testing.T) {
	x := newPair(t, 10, 3)
	enters := func(who int, now, reader uint64) {
		t.Helper()
		f := in(api.PhEnter, get("a"))
		x.becomes(who, f, set(f, func(f *api.Frame) { f.Phase, f.Epoch = api.PhFind, now }))
		if e, ok := x.a.Readers().Inside(who); !ok || e != reader {
			t.Errorf("thread %d announced %d, %v, want %d", who, e, ok, reader)
		}
	}
	enters(0, 1, 1)
	x.both(func(a *arena.Arena) { a.Readers().Advance(); a.Readers().Advance(); a.Readers().Advance() })
	enters(1, 1, 4)
	x.both(func(a *arena.Arena) { a.Clock().Begin() })
	enters(2, 2, 4)
	if d := x.a.Clock().Durable(); d != 0 {
		t.Errorf("Durable is %d", d)
	}
}

// over returns two stores that go on from the epoch and from a put of the key with these numbers.
func over(t *testing.T, last, id, ver uint64, key string) *pair {
	t.Helper()
	x := newPair(t, 18, 2)
	for _, to := range []**arena.Arena{&x.a, &x.m} {
		b := api.Block{Kind: api.KindMap, ID: id, Ver: ver, Epoch: 1, Key: key, Value: "1"}
		lines, _ := block.Encode(b)
		(*to).Dev().Store(4, 0, lines)
		a, e := arena.Over((*to).Dev(), 2, last, []api.Found{{Line: 4, Good: true, B: b}})
		if e != api.OK {
			t.Fatalf("Over: %d", e)
		}
		*to = a
	}
	return x
}

// Epochs and numbers that are great.
func TestP17_1_GreatNumbers(t *testing.T) {
	for _, n := range []uint64{0, 1, 255, 1 << 32, 1<<60 - 1, 1 << 60} {
		x := over(t, n, max(n, 1), max(n, 1), "a")
		if f := x.does(get("a")); !f.Ans.Found || f.Ans.Value != "1" || f.Epoch != n+1 {
			t.Errorf("get: %+v", f)
		}
		if f := x.does(put("a", "2")); !f.Ans.Found || f.Ans.Epoch != n+1 {
			t.Errorf("put: %+v", f)
		}
		if f := x.does(get("a")); f.Ans.Value != "2" {
			t.Errorf("get: %+v", f)
		}
		if f := x.does(del("a")); !f.Ans.Found || f.Ans.Epoch != n+1 {
			t.Errorf("del: %+v", f)
		}
	}
}

// A bucket is gone through link by link, by rising keys, and other buckets are not looked at.
func TestP17_1_FindGoesLinkByLink(t *testing.T) {
	const bucket = 2
	mine, other := keysOf(bucket, 9), keysOf(bucket+1, 6)
	x := newPair(t, 34, 2)
	for i := 1; i < len(mine); i += 2 {
		x.does(put(mine[i], mine[i]))
	}
	for _, key := range other {
		x.does(put(key, "o"))
	}
	for i, key := range mine {
		for _, c := range calls(key, "1") {
			f := at(api.PhFind, c)
			for j := 1; j < i; j += 2 {
				f = x.becomes(1, f, set(f, func(f *api.Frame) { f.Pos, f.Past = mine[j], true }))
			}
			g := x.step(1, f)
			if had := i%2 == 1; g.Phase == api.PhFind || g.Had != had || g.Pos != f.Pos || g.Past != f.Past {
				t.Errorf("search for key %d: %+v became %+v", i, f, g)
			} else if had && g.Old != x.link(key) || !had && g.Old != (api.Link{}) {
				t.Errorf("search for key %d: found was %+v", i, g.Old)
			}
		}
	}
	for _, key := range other {
		if f := x.upTo(api.PhRead, 1, begin(get(key))); f.Old != x.link(key) {
			t.Errorf("search for %q: found was %+v", key, f.Old)
		}
		x.both(func(a *arena.Arena) { a.Readers().Leave(1) })
	}
}

// The search goes on from where it is, whatever comes and goes behind it and ahead of it.
func TestP17_1_FindWhileKeysComeAndGo(t *testing.T) {
	k := keysOf(4, 8)
	x := newPair(t, 66, 2)
	x.does(put(k[1], ""), put(k[3], ""), put(k[5], ""))
	f := at(api.PhFind, get(k[6]))
	f = x.becomes(1, f, set(f, func(f *api.Frame) { f.Pos, f.Past = k[1], true }))
	// A key behind it is not looked at, and one ahead of it that has gone is not either.
	x.does(put(k[0], ""), del(k[3]), del(k[1]), put(k[4], ""))
	f = x.becomes(1, f, set(f, func(f *api.Frame) { f.Pos = k[4] }))
	f = x.becomes(1, f, set(f, func(f *api.Frame) { f.Pos = k[5] }))
	x.does(put(k[6], ""), put(k[7], ""))
	found := x.becomes(1, f, set(f, func(f *api.Frame) {
		f.Phase, f.Had, f.Old, f.Piece, f.Bytes = api.PhRead, true, x.link(k[6]), 0, nil
	}))
	x.does(del(k[6]))
	x.becomes(1, f, set(f, func(f *api.Frame) { f.Phase = api.PhLeave }))
	if found.Old.Ver == 0 {
		t.Errorf("%+v", found)
	}
}

// A Pos that is the empty key and a Pos that is none are told apart by Past, and without Past Pos is not looked at.
func TestP17_1_FindFromTheEmptyPos(t *testing.T) {
	bucket := place.Bucket("")
	key := keysOf(bucket, 1)[0]
	x := newPair(t, 10, 1)
	x.does(put(key, ""))
	found := func(f *api.Frame) { f.Phase, f.Had, f.Old = api.PhTake, true, x.link(key) }
	from := func(pos string, past bool) api.Frame {
		return set(in(api.PhFind, put(key, "")), func(f *api.Frame) { f.Pos, f.Past = pos, past })
	}
	for _, f := range []api.Frame{from("", false), from("", true), from("a", true), from("zz", false), from(key, false), from("\xff", false)} {
		x.becomes(0, f, set(f, found))
	}
	for _, f := range []api.Frame{from(key, true), from("zz", true)} {
		x.becomes(0, f, set(f, func(f *api.Frame) { f.Phase, f.Had, f.Old = api.PhTake, false, api.Link{} }))
	}
	// A link of the empty key is there to be seen from the empty Pos without Past only.
	x.both(func(a *arena.Arena) { a.Table().Set(api.Link{ID: 1, Ver: 1, Line: 2}) })
	for _, f := range []api.Frame{from("", false), from("zz", false)} {
		f = x.becomes(0, f, set(f, func(f *api.Frame) { f.Pos, f.Past = "", true }))
		x.becomes(0, f, set(f, found))
	}
}

// What each call goes on to, with a block and without one.
func TestP17_1_FindGoesOn(t *testing.T) {
	for _, had := range []bool{false, true} {
		for _, line := range []int{-1, -2, -64, math.MinInt, 0, 1, 2, 3, 4, 9, 10, 300, math.MaxInt} {
			for i, c := range calls("a", "1") {
				x := newPair(t, 18, 1)
				x.does(put("b", "2"), put("aa", "2"))
				if had {
					x.does(put("a", "2"))
				}
				x.both(func(a *arena.Arena) { a.Pool().Take(0); a.Pool().Take(1) })
				taken := len(x.a.Pool().Taken())
				_, isTaken := x.a.Pool().Of(line)
				f := set(in(api.PhFind, c), func(f *api.Frame) { f.Pos, f.Past, f.Line = "", false, line })
				want := set(f, func(f *api.Frame) {
					f.Had, f.Old = had, api.Link{}
					if had {
						f.Old = x.link("a")
					}
					f.Phase = []int{api.PhLeave, api.PhTake, api.PhLeave}[i]
					if had {
						f.Phase = []int{api.PhRead, api.PhTake, api.PhTake}[i]
					}
					if f.Phase == api.PhTake && line >= 0 {
						f.Phase = api.PhPublish
					}
					if f.Phase == api.PhRead {
						f.Piece, f.Bytes = 0, nil
					}
					if i == 2 && !had && line >= 0 {
						f.Line = -1
					}
				})
				x.becomes(0, f, want)
				if i == 2 && !had && isTaken {
					taken--
				}
				if now := len(x.a.Pool().Taken()); now != taken {
					t.Errorf("%+v with line %d, present %v: %d blocks are allocated, want %d", c, line, had, now, taken)
				}
			}
		}
	}
}

// A del that finds nothing in its second try gives back the block that it took in its first one, and no other.
func TestP17_1_DelGivesItsBlockBack(t *testing.T) {
	x := newPair(t, 18, 2)
	x.does(put("a", "1"), put("b", "1"))
	f := x.upTo(api.PhPublish, 1, begin(del("a")))
	x.does(del("a"))
	was := x.a.Pool().Taken()
	line := f.Line
	f, phases := x.end(1, f)
	if f.Ans.Found || f.Ans.Code != api.OK || f.Ans.Epoch != 0 || f.Line != -1 || fmt.Sprint(phases) != "[1 6 7]" {
		t.Errorf("%+v behind %v", f, phases)
	}
	if _, ok := x.a.Pool().Of(line); ok || len(x.a.Pool().Taken()) != len(was)-1 {
		t.Errorf("allocated is %v, and was %v", x.a.Pool().Taken(), was)
	}
	x.private()
}

// The class is the one that the key and the value need together, and that of an anti for a del.
func TestP17_1_TakeOfEachClass(t *testing.T) {
	for _, n := range []struct{ bytes, class int }{{1, 0}, {2, 0}, {27, 0}, {28, 0}, {29, 1}, {30, 1}, {90, 1}, {91, 1}, {92, 2}, {216, 2}, {217, 2}, {218, 3}, {415, 3}, {416, 3}, {468, 3}, {469, 3}} {
		for _, key := range []int{1, 2, 15, 16} {
			if key > n.bytes {
				continue
			}
			x := newPair(t, 42, 1)
			x.both(func(a *arena.Arena) { a.Pool().Take((n.class + 1) % 4) })
			c := put(text(key, 1), text(n.bytes-key, 2))
			for _, line := range []int{-1, 7} {
				f := set(in(api.PhTake, c), func(f *api.Frame) { f.Line = line })
				before := len(x.a.Pool().Taken())
				g := x.step(0, f)
				if want := set(f, func(f *api.Frame) { f.Phase, f.Class, f.Line, f.Piece = api.PhWrite, n.class, g.Line, 0 }); !same(g, want) {
					t.Errorf("%d bytes: %+v, want %+v", n.bytes, g, want)
				}
				if of, ok := x.a.Pool().Of(g.Line); !ok || of != n.class || len(x.a.Pool().Taken()) != before+1 {
					t.Errorf("%d bytes: at %d there is class %d, %v", n.bytes, g.Line, of, ok)
				}
			}
			// What a del removes needs no room in its block.
			for _, d := range []api.Call{{Kind: api.CallDel, Key: c.Key, Value: c.Value}, {Kind: api.CallDel, Key: c.Key + c.Value}} {
				g := x.step(0, in(api.PhTake, d))
				if of, ok := x.a.Pool().Of(g.Line); !ok || of != 0 || g.Class != 0 || g.Phase != api.PhWrite || g.Piece != 0 {
					t.Errorf("a del with %d bytes took class %d: %+v", n.bytes, of, g)
				}
			}
		}
	}
}

// The lowest free block is taken.
func TestP17_1_TakeTakesWhatThePoolGives(t *testing.T) {
	x := newPair(t, 18, 1)
	for _, want := range []int{2, 3, 4} {
		if f := x.upTo(api.PhWrite, 0, at(api.PhFind, put("a", ""))); f.Line != want {
			t.Errorf("line %d was taken, want %d", f.Line, want)
		}
	}
	x.both(func(a *arena.Arena) { a.Pool().Give(3) })
	if f := x.upTo(api.PhWrite, 0, at(api.PhFind, put("a", ""))); f.Line != 3 {
		t.Errorf("line %d was taken, want 3", f.Line)
	}
}

func TestP17_1_TakeThatFails(t *testing.T) {
	for c := range api.Classes {
		x := newPair(t, 18, 1)
		x.both(func(a *arena.Arena) {
			for a.Pool().Room(c) {
				a.Pool().Take(c)
			}
		})
		was := x.unchanged("no room")
		for other, n := range []int{1, 29, 92, 218} {
			for _, line := range []int{-1, -5, 0, 7} {
				f := set(in(api.PhTake, put("a", text(n-1, 0))), func(f *api.Frame) { f.Line = line })
				x.becomes(0, f, set(f, func(f *api.Frame) { f.Phase, f.Class, f.Ans.Code = api.PhLeave, other, api.ErrNoSpace }))
			}
		}
		f := in(api.PhTake, del("a"))
		x.becomes(0, f, set(f, func(f *api.Frame) { f.Phase, f.Class, f.Ans.Code = api.PhLeave, 0, api.ErrNoSpace }))
		was()
	}
	// There is no class for a value that is so long, and there would be room.
	x := newPair(t, 18, 1)
	was := x.unchanged("no class")
	for _, n := range []int{470, 471, 1 << 10, 1 << 16} {
		f := in(api.PhTake, put("a", text(n-1, 0)))
		x.becomes(0, f, set(f, func(f *api.Frame) { f.Phase, f.Class, f.Ans.Code = api.PhLeave, -1, api.ErrArg }))
	}
	was()
}

// furtherLines are the lines behind the head of a block with these data, put together byte by byte.
func furtherLines(data string, c int) [][]byte {
	var l [][]byte
	for i := 28; i < class.Cap(c); i++ {
		if (i-28)%63 == 0 {
			l = append(l, []byte{api.TagData})
		}
		b := byte(0)
		if i < len(data) {
			b = data[i]
		}
		l[len(l)-1] = append(l[len(l)-1], b)
	}
	return l
}

// A step writes one line, the draft first, and nothing beside it.
func TestP17_1_WriteLineByLine(t *testing.T) {
	for _, n := range []int{1, 16, 17, 27, 28, 29, 30, 60, 90, 91, 92, 93, 154, 155, 216, 217, 218, 280, 281, 343, 344, 406, 407, 415, 416} {
		for _, key := range []int{1, 16} {
			if key > n || n-key > 400 {
				continue
			}
			x := newPair(t, 34, 1)
			// All lines have something in them, so that what is left out is seen.
			x.both(func(a *arena.Arena) {
				for line := 2; line < 34; line++ {
					a.Dev().Store(line, 0, []byte(text(64, byte(line))))
				}
				a.Pool().Mark(10, classOf(n))
			})
			c := put(text(key, 5), text(n-key, 100))
			data, further := c.Key+c.Value, furtherLines(c.Key+c.Value, classOf(n))
			f := set(x.step(0, in(api.PhTake, c)), func(f *api.Frame) { f.Old.Line = 3 })
			for i := range 1 << f.Class {
				want := memoryOf(x.a)
				want.Counts.Stores++
				want.Volatile[f.Line+i] = string(block.Draft(f.Class))
				if i > 0 {
					want.Volatile[f.Line+i] = string(further[i-1])
				}
				was := stateOf(x.a)
				f = x.becomes(0, f, set(f, func(f *api.Frame) {
					f.Piece = i + 1
					if i+1 == 1<<f.Class {
						f.Phase, f.Piece = api.PhPublish, 0
					}
				}))
				if got := memoryOf(x.a); !reflect.DeepEqual(got, want) {
					t.Fatalf("%d bytes: line %d of the block is %x, want %x, or a line beside it has changed", n, i, got.Volatile[f.Line+i], want.Volatile[f.Line+i])
				}
				if now := stateOf(x.a); !reflect.DeepEqual(now, was) {
					t.Errorf("%d bytes: the store is %+v, and was %+v", n, now, was)
				}
			}
			if len(data) != n {
				t.Fatalf("%d bytes", len(data))
			}
		}
	}
}

// A del writes the draft of an anti's class alone, whatever value its call has.
func TestP17_1_WriteOfADel(t *testing.T) {
	x := newPair(t, 18, 1)
	x.both(func(a *arena.Arena) {
		for line := 2; line < 18; line++ {
			a.Dev().Store(line, 0, []byte(text(64, byte(line))))
		}
	})
	for _, n := range []int{0, 28, 91, 400, 500} {
		f := x.step(0, in(api.PhTake, api.Call{Kind: api.CallDel, Key: "a", Value: text(n, 0)}))
		want := memoryOf(x.a)
		want.Counts.Stores++
		want.Volatile[f.Line] = string(block.Draft(0))
		x.becomes(0, f, set(f, func(f *api.Frame) { f.Phase = api.PhPublish }))
		if !reflect.DeepEqual(memoryOf(x.a), want) {
			t.Errorf("a del with a value of %d bytes did not write a draft alone", n)
		}
	}
}

// Until a call has published, a cut leaves nothing of it, and its block is no block.
func TestP17_2_WriteShowsNothing(t *testing.T) {
	for _, n := range []int{0, 27, 90, 216, 400} {
		x := newPair(t, 34, 1)
		x.does(put("b", "2"))
		f := begin(put("a", text(n, 0)))
		for f.Phase != api.PhPublish {
			f = x.step(0, f)
			if f.Phase < api.PhWrite {
				continue
			}
			var lines []byte
			for i := range class.Span(f.Class) {
				b, _ := x.a.Dev().Load(f.Line + i)
				lines = append(lines, b...)
			}
			if b, ok := block.Decode(lines); ok && b.Kind != api.KindDraft {
				t.Errorf("ahead of publishing there is %+v", b)
			}
			if x.a.Table().Len() != 1 || x.a.Order().Len() != 1 || len(x.a.Effects()) != 1 {
				t.Errorf("ahead of publishing there is %+v", stateOf(x.a))
			}
			if owed := x.a.Clock().Owed(); owed[0] != 1 {
				t.Errorf("ahead of publishing %v lines are owed", owed)
			}
		}
	}
}
