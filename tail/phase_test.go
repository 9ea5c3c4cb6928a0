package tail_test

import (
	"math"
	"reflect"
	"strings"
	"testing"

	"fusee/api"
	"fusee/arena"
	"fusee/block"
	"fusee/class"
	"fusee/ideal"
)

// done returns f, ended with this error.
func done(f api.Frame, e api.Errno) api.Frame {
	return set(f, func(f *api.Frame) { f.Phase, f.Ans.Code = api.PhDone, e })
}

// entered returns f behind its first step in this epoch.
func entered(f api.Frame, epoch uint64) api.Frame {
	return set(f, func(f *api.Frame) {
		f.Epoch, f.Phase = epoch, api.PhTake
		if f.Call.Kind == api.CallDeq {
			f.Phase = api.PhFind
		}
	})
}

// A call that is not valid ends at once with the error of Good, and the thread does not get in.
func TestP18_1_EnterOfACallThatIsNotValid(t *testing.T) {
	x := newPair(t, 10, 2)
	x.both(func(a *arena.Arena) { a.Readers().Enter(1) })
	was := x.unchanged("calls that are not valid")
	for _, value := range []string{overValue, text(401, 0), strings.Repeat("\x00", 401), text(402, 9), text(1<<16+1, 3)} {
		for _, c := range []api.Call{enq(value), keyed(enq(value))} {
			if e := ideal.Good(c); e != api.ErrTooBig {
				t.Fatalf("Good is %d", e)
			}
			// The call is asked first: it does not matter who calls.
			for _, who := range append(ints(), 0, 1) {
				for _, f := range inAll(api.PhEnter, c) {
					x.becomes(who, f, done(f, api.ErrTooBig))
				}
			}
		}
	}
	was()
}

// What is not asked of a call of its kind may be anything.
func TestP18_1_EnterIgnoresOtherFields(t *testing.T) {
	x := newPair(t, 10, 1)
	for _, c := range []api.Call{
		enq(""), enq(longValue), keyed(enq("")), keyed(enq(longValue)), keyed(enq(text(400, 130))),
		deq(), keyed(deq()), {Kind: api.CallDeq, Key: longKey, Value: overValue}, {Kind: api.CallDeq, Key: overKey, Value: text(1<<16, 0), To: overKey, Group: make([]api.Call, 5)},
	} {
		f := begin(c)
		x.becomes(0, f, entered(f, 1))
		x.both(func(a *arena.Arena) { a.Readers().Leave(0) })
	}
}

func TestP18_1_EnterOfAThreadThatMayNot(t *testing.T) {
	for threads := 1; threads <= api.MaxThreads; threads++ {
		x := newPair(t, 10, threads)
		for _, c := range []api.Call{enq("1"), deq()} {
			for _, f := range inAll(api.PhEnter, c) {
				was := x.unchanged("threads that are none")
				for _, who := range append(ints(), threads, threads+1) {
					if who >= 0 && who < threads {
						continue
					}
					x.becomes(who, f, done(f, api.ErrArg))
				}
				was()
				for who := range threads {
					x.becomes(who, f, entered(f, 1))
					was := x.unchanged("a thread that is inside")
					x.becomes(who, f, done(f, api.ErrBusy))
					was()
				}
				for who := range threads {
					x.both(func(a *arena.Arena) { a.Readers().Leave(who) })
				}
			}
		}
	}
}

// The epoch is the clock's, closed or being closed, and what the thread announces is the readers'.
func TestP18_1_EnterAsTheClocksHaveIt(t *testing.T) {
	for _, c := range []api.Call{enq("1"), deq()} {
		x := newPair(t, 10, 3)
		enters := func(who int, now, reader uint64) {
			t.Helper()
			f := in(api.PhEnter, c)
			x.becomes(who, f, entered(f, now))
			if e, ok := x.a.Readers().Inside(who); !ok || e != reader {
				t.Errorf("thread %d announced %d, %v, want %d", who, e, ok, reader)
			}
		}
		enters(0, 1, 1)
		x.both(func(a *arena.Arena) { a.Readers().Advance(); a.Readers().Advance(); a.Readers().Advance() })
		enters(1, 1, 4)
		x.both(func(a *arena.Arena) { a.Clock().Begin() })
		enters(2, 2, 4)
		if d := x.a.Clock().Durable(); d != 0 {
			t.Errorf("Durable is %d", d)
		}
	}
}

// over returns two stores that go on from the epoch and from an enq with these numbers.
func over(t *testing.T, last, id, ver uint64) *pair {
	t.Helper()
	x := newPair(t, 18, 2)
	for _, to := range []**arena.Arena{&x.a, &x.m} {
		b := api.Block{Kind: api.KindQueue, ID: id, Ver: ver, Epoch: 1, Value: "1"}
		lines, _ := block.Encode(b)
		(*to).Dev().Store(4, 0, lines)
		a, e := arena.Over((*to).Dev(), 2, last, []api.Found{{Line: 4, Good: true, B: b}})
		if e != api.OK {
			t.Fatalf("Over: %d", e)
		}
		*to = a
	}
	return x
}

// Epochs and numbers that are great.
func TestP18_1_GreatNumbers(t *testing.T) {
	for _, n := range []uint64{0, 1, 255, 1 << 32, 1<<60 - 1, 1 << 60} {
		x := over(t, n, max(n, 1), max(n, 1))
		if f := x.does(enq("2")); f.Ans.Found || f.Ans.Epoch != n+1 || f.Epoch != n+1 {
			t.Errorf("enq: %+v", f)
		}
		for _, want := range []string{"1", "2"} {
			if f := x.does(deq()); !f.Ans.Found || f.Ans.Value != want || f.Ans.Epoch != n+1 {
				t.Errorf("deq: %+v, want %q", f, want)
			}
		}
	}
}

// places are what the Line of a frame may be: a block that is allocated or not, or none.
func places() []int {
	return []int{-1, -2, -64, math.MinInt, 0, 1, 2, 3, 4, 5, 9, 10, 17, 18, 300, math.MaxInt}
}

// An empty queue has nothing to be removed: a block that the frame holds goes back, and no other.
func TestP18_1_FindInAnEmptyQueue(t *testing.T) {
	for _, used := range []bool{false, true} {
		for _, line := range places() {
			for _, c := range []api.Call{deq(), keyed(deq())} {
				x := newPair(t, 34, 1)
				x.does(put("a", "1"))
				if used {
					x.does(enq("gone"), deq())
				}
				x.both(func(a *arena.Arena) { a.Pool().Take(0); a.Pool().Take(0); a.Pool().Take(1); a.Pool().Take(3) })
				want := len(x.a.Pool().Taken())
				_, isTaken := x.a.Pool().Of(line)
				f := set(in(api.PhFind, c), func(f *api.Frame) { f.Line = line })
				x.becomes(0, f, set(f, func(f *api.Frame) {
					f.Phase, f.Had, f.Old, f.Line = api.PhLeave, false, api.Link{}, min(line, -1)
				}))
				if isTaken {
					want--
				}
				if now := len(x.a.Pool().Taken()); now != want {
					t.Errorf("with line %d %d blocks are allocated, want %d", line, now, want)
				}
				if _, still := x.a.Pool().Of(line); still {
					t.Errorf("the block at %d is still allocated", line)
				}
			}
		}
	}
}

// The first link of the queue is found, however many there are behind it, and nothing is taken or given back.
func TestP18_1_FindOfTheFirst(t *testing.T) {
	for n := 1; n <= 12; n++ {
		x := newPair(t, 258, 1)
		x.does(enq("gone"))
		for i := range n {
			x.does(enq(text(i*20, byte(i))))
		}
		x.does(put("a", "1"), deq())
		for left := n; left > 0; left-- {
			k := x.first()
			if all := x.a.Line().All(); len(all) != left || all[0] != k || k.Key != "" || k.ID != uint64(n-left+2) {
				t.Fatalf("the links are %v", all)
			}
			was := x.unchanged("a search")
			for _, line := range places() {
				for _, had := range []bool{false, true} {
					f := set(in(api.PhFind, keyed(deq())), func(f *api.Frame) { f.Line, f.Had = line, had })
					x.becomes(0, f, set(f, func(f *api.Frame) { f.Phase, f.Had, f.Old, f.Piece, f.Bytes = api.PhRead, true, k, 0, nil }))
				}
			}
			was()
			x.does(deq())
		}
	}
}

// An enq does not search and does not read: there it stays as it is.
func TestP18_1_EnqNeitherFindsNorReads(t *testing.T) {
	x := newPair(t, 34, 2)
	check := func() {
		t.Helper()
		was := x.unchanged("an enq in a phase that it does not come to")
		for _, phase := range []int{api.PhFind, api.PhRead} {
			for _, c := range []api.Call{enq(""), enq(text(60, 1)), keyed(enq("1")), enq(overValue)} {
				for _, f := range inAll(phase, c) {
					x.becomes(0, f, f)
					x.becomes(1, f, f)
					x.becomes(-1, f, f)
					f = set(f, func(f *api.Frame) { f.Piece, f.Bytes, f.Line = 0, nil, 3 })
					if k, ok := x.a.Line().Head(); ok {
						f.Old, f.Had = k, true
					}
					x.becomes(0, f, f)
				}
			}
		}
		was()
	}
	check()
	x.both(func(a *arena.Arena) { a.Pool().Mark(3, 0); a.Readers().Enter(1) })
	check()
	x.does(enq("1"))
	check()
}

// The class is the one that an enq's value needs, whatever key the call has, and that of an anti for a deq.
func TestP18_1_TakeOfEachClass(t *testing.T) {
	for n, c := range beside() {
		for _, key := range []string{"", "k", longKey, overKey, strings.Repeat("k", 1000)} {
			x := newPair(t, 58, 1)
			x.both(func(a *arena.Arena) { a.Pool().Take((c + 1) % 4); a.Pool().Take((c + 2) % 4) })
			takes := func(call api.Call, c int) {
				t.Helper()
				for _, line := range []int{-1, -7, 7} {
					f := set(in(api.PhTake, call), func(f *api.Frame) { f.Line = line })
					before := len(x.a.Pool().Taken())
					g := x.step(0, f)
					if want := set(f, func(f *api.Frame) { f.Phase, f.Class, f.Line, f.Piece = api.PhWrite, c, g.Line, 0 }); !same(g, want) {
						t.Errorf("%d bytes: %+v, want %+v", n, g, want)
					}
					if of, ok := x.a.Pool().Of(g.Line); !ok || of != c || g.Line == line || len(x.a.Pool().Taken()) != before+1 {
						t.Errorf("%d bytes: at %d there is class %d, %v", n, g.Line, of, ok)
					}
					x.both(func(a *arena.Arena) { a.Pool().Give(g.Line) })
				}
			}
			takes(api.Call{Kind: api.CallEnq, Key: key, Value: text(n, 2)}, c)
			// What a deq removes needs no room in its block.
			takes(api.Call{Kind: api.CallDeq, Key: key, Value: text(n, 2)}, 0)
		}
	}
}

// The lowest free block is taken.
func TestP18_1_TakeTakesWhatThePoolGives(t *testing.T) {
	x := newPair(t, 18, 1)
	takes := func(phase int, c api.Call, want int) {
		t.Helper()
		if f := x.upTo(api.PhWrite, 0, set(begin(c), func(f *api.Frame) { f.Phase = phase })); f.Line != want {
			t.Errorf("line %d was taken, want %d", f.Line, want)
		}
	}
	takes(api.PhTake, enq(""), 2)
	takes(api.PhTake, deq(), 3)
	takes(api.PhTake, enq(text(28, 1)), 4)
	takes(api.PhTake, enq(text(29, 1)), 10)
	x.both(func(a *arena.Arena) { a.Pool().Give(3) })
	takes(api.PhTake, deq(), 3)
	takes(api.PhTake, deq(), 5)
	takes(api.PhTake, enq(text(91, 1)), 12)
}

// A pool that has no block: the call ends, with a value emptied that was read ahead of it.
func TestP18_1_TakeThatFails(t *testing.T) {
	fails := func(x *pair, c api.Call, class int, e api.Errno) {
		t.Helper()
		for _, line := range []int{-1, -5, 0, 7} {
			for _, value := range []string{"", "value", longValue} {
				f := set(in(api.PhTake, c), func(f *api.Frame) { f.Line, f.Ans.Value, f.Ans.Found = line, value, true })
				x.becomes(0, f, set(f, func(f *api.Frame) {
					f.Phase, f.Class, f.Ans.Code, f.Ans.Value = api.PhLeave, class, e, ""
				}))
			}
		}
	}
	for full := range api.Classes {
		x := newPair(t, 18, 1)
		x.both(func(a *arena.Arena) {
			for a.Pool().Room(full) {
				a.Pool().Take(full)
			}
		})
		was := x.unchanged("no room")
		for n, c := range beside() {
			fails(x, enq(text(n, 0)), c, api.ErrNoSpace)
			fails(x, keyed(enq(text(n, 0))), c, api.ErrNoSpace)
		}
		fails(x, deq(), 0, api.ErrNoSpace)
		fails(x, keyed(deq()), 0, api.ErrNoSpace)
		was()
	}
	// There is no class for a value that is so long, and there would be room.
	x := newPair(t, 18, 1)
	was := x.unchanged("no class")
	for _, n := range []int{470, 471, 1 << 10, 1 << 16} {
		fails(x, enq(text(n, 0)), -1, api.ErrArg)
	}
	was()
}

// A value that is too long for a call is not too long for a block up to its last byte.
func TestP18_1_TakeOfAValueThatIsTooLong(t *testing.T) {
	for _, n := range []int{401, 468, 469} {
		x := newPair(t, 18, 1)
		f := set(in(api.PhTake, enq(text(n, 0))), func(f *api.Frame) { f.Line = -1 })
		x.becomes(0, f, set(f, func(f *api.Frame) { f.Phase, f.Class, f.Line, f.Piece = api.PhWrite, 3, 2, 0 }))
	}
}

// furtherLines are the lines behind the head of a block with these data, put together byte by byte.
func furtherLines(data string, c int) [][]byte {
	var l [][]byte
	for i := 28; i < class.Cap(c); i++ {
		if (i-28)%63 == 0 {
			l = append(l, []byte{api.TagData})
		}
		b := byte(0)
		if i < len(data) {
			b = data[i]
		}
		l[len(l)-1] = append(l[len(l)-1], b)
	}
	return l
}

// littered returns two stores whose lines all have something in them, so that what is left out is seen.
func littered(t *testing.T) *pair {
	t.Helper()
	x := newPair(t, 34, 1)
	x.both(func(a *arena.Arena) {
		for line := 2; line < 34; line++ {
			a.Dev().Store(line, 0, []byte(text(64, byte(line))))
		}
	})
	return x
}

// A step writes one line, the draft first, and nothing beside it: of the value's bytes only.
func TestP18_1_WriteLineByLine(t *testing.T) {
	sizes := beside()
	for _, n := range []int{16, 60, 154, 155, 280, 281, 343, 344, 399} {
		sizes[n] = classOf(n)
	}
	for n, c := range sizes {
		for _, key := range []string{"", "k", longKey, text(200, 7)} {
			x := littered(t)
			x.both(func(a *arena.Arena) { a.Pool().Mark(10, c) })
			call := api.Call{Kind: api.CallEnq, Key: key, Value: text(n, 100)}
			further := furtherLines(call.Value, c)
			f := x.step(0, in(api.PhTake, call))
			if f.Class != c || f.Line == 10 {
				t.Fatalf("%d bytes: %+v", n, f)
			}
			for i := range 1 << c {
				want, was := memoryOf(x.a), stateOf(x.a)
				want.Counts.Stores++
				want.Volatile[f.Line+i] = string(block.Draft(c))
				if i > 0 {
					want.Volatile[f.Line+i] = string(further[i-1])
				}
				f = x.becomes(0, f, set(f, func(f *api.Frame) {
					f.Piece = i + 1
					if i+1 == 1<<c {
						f.Phase, f.Piece = api.PhPublish, 0
					}
				}))
				if got := memoryOf(x.a); !reflect.DeepEqual(got, want) {
					t.Fatalf("%d bytes: line %d of the block is %x, want %x, or a line beside it has changed", n, i, got.Volatile[f.Line+i], want.Volatile[f.Line+i])
				}
				if now := stateOf(x.a); !reflect.DeepEqual(now, was) {
					t.Errorf("%d bytes: the store is %+v, and was %+v", n, now, was)
				}
			}
		}
	}
}

// A deq writes the draft of an anti's class alone, whatever its call has.
func TestP18_1_WriteOfADeq(t *testing.T) {
	for _, n := range []int{0, 28, 29, 91, 217, 400, 500} {
		for _, key := range []string{"", text(70, 4)} {
			x := littered(t)
			f := x.step(0, in(api.PhTake, api.Call{Kind: api.CallDeq, Key: key, Value: text(n, 0)}))
			want := memoryOf(x.a)
			want.Counts.Stores++
			want.Volatile[f.Line] = string(block.Draft(0))
			x.becomes(0, f, set(f, func(f *api.Frame) { f.Phase = api.PhPublish }))
			if !reflect.DeepEqual(memoryOf(x.a), want) {
				t.Errorf("a deq with a value of %d bytes did not write a draft alone", n)
			}
		}
	}
}

// Until an enq has published, there is no value of it: its block is a draft, and no line of it is owed.
func TestP18_2_WriteShowsNothing(t *testing.T) {
	for n := range beside() {
		x := newPair(t, 34, 1)
		x.does(enq("ahead"))
		f := begin(enq(text(n, 0)))
		for f.Phase != api.PhPublish {
			f = x.step(0, f)
			if f.Phase < api.PhWrite {
				continue
			}
			var lines []byte
			for i := range class.Span(f.Class) {
				b, _ := x.a.Dev().Load(f.Line + i)
				lines = append(lines, b...)
			}
			if b, ok := block.Decode(lines); ok && b.Kind != api.KindDraft {
				t.Errorf("ahead of publishing there is %+v", b)
			}
			x.queue("ahead")
			if owed := x.a.Clock().Owed(); owed[0] != 1 || len(x.a.Effects()) != 1 {
				t.Errorf("ahead of publishing %v lines are owed, and there are %+v", owed, x.a.Effects())
			}
		}
	}
}

func TestP18_1_Leave(t *testing.T) {
	x := newPair(t, 18, 3)
	for _, c := range []api.Call{enq("1"), deq()} {
		f := in(api.PhLeave, c)
		x.both(func(a *arena.Arena) { a.Readers().Enter(0); a.Readers().Enter(1) })
		left := set(f, func(f *api.Frame) { f.Phase = api.PhDone })
		x.becomes(1, f, left)
		for who := range 3 {
			if _, inside := x.a.Readers().Inside(who); inside != (who == 0) {
				t.Errorf("thread %d is inside: %v", who, inside)
			}
		}
		// One that is not inside, or that does not exist, leaves as well, and its call says nothing of it.
		was := x.unchanged("threads that are not inside")
		for _, who := range append(ints(), 1, 2, 3) {
			x.becomes(who, f, left)
		}
		was()
		x.becomes(0, f, left)
	}
	f := set(in(api.PhLeave, enq("1")), func(f *api.Frame) { f.Line, f.Ans.Code = 2, api.ErrNoSpace })
	x.becomes(0, f, set(f, func(f *api.Frame) { f.Phase = api.PhDone }))
}

// A frame that has ended, or that is in no phase of these calls, stays as it is.
func TestP18_1_OtherPhases(t *testing.T) {
	x := newPair(t, 18, 2)
	x.does(enq("1"))
	x.both(func(a *arena.Arena) { a.Readers().Enter(1) })
	was := x.unchanged("no phase")
	phases := []int{api.PhDone, api.PhSeek, api.PhWalk, api.PhWait, 11, 12, math.MinInt + 3, math.MinInt + 5, 1<<32 + 6}
	for _, n := range ints() {
		if n < 0 || n > api.PhDone {
			phases = append(phases, n)
		}
	}
	for _, phase := range phases {
		for _, c := range []api.Call{enq("2"), deq(), enq(overValue), keyed(enq("2")), keyed(deq())} {
			for _, f := range inAll(phase, c) {
				for _, who := range []int{0, 1, 2, -1} {
					x.becomes(who, f, f)
				}
			}
		}
	}
	was()
}

// A call of another kind, or of none, stays as it is, in every phase.
func TestP18_1_OtherKinds(t *testing.T) {
	x := newPair(t, 18, 2)
	x.does(enq("1"))
	x.both(func(a *arena.Arena) { a.Readers().Enter(1) })
	x.quiet = true
	was := x.unchanged("no kind")
	kinds := []int{api.CallGet, api.CallPut, api.CallDel, api.CallScan, api.CallGroup, api.CallSync, 0, 10, 11, 1<<32 + 4, 1<<32 + 5, 1<<16 + 5, 256 + 4, math.MinInt + 4}
	for _, n := range ints() {
		if n != api.CallEnq && n != api.CallDeq {
			kinds = append(kinds, n)
		}
	}
	for _, kind := range kinds {
		for phase := -1; phase <= 11; phase++ {
			c := api.Call{Kind: kind, Key: "a", Value: "2", Group: []api.Call{enq("1")}}
			for _, f := range append(inAll(phase, c), api.Frame{Call: c, Phase: phase, Old: x.first()}) {
				for _, who := range []int{0, 1} {
					if got := step(t, x.a, who, f); !same(got, f) {
						t.Errorf("%+v became %+v", f, got)
					}
				}
			}
		}
	}
	was()
}

// changes are changes of fields that no phase of these calls has a use for.
func changes() []func(f *api.Frame) {
	return []func(f *api.Frame){
		func(f *api.Frame) { f.Pos = "" },
		func(f *api.Frame) { f.Pos, f.Past = "\xff", false },
		func(f *api.Frame) { f.Level = -5 },
		func(f *api.Frame) { f.At = 1 << 40 },
		func(f *api.Frame) { f.Parts = nil },
		func(f *api.Frame) { f.Parts = []api.Part{{Line: 2, Old: api.Link{Key: "p"}}} },
		func(f *api.Frame) { f.Ans.Hits = []bool{true, true} },
		func(f *api.Frame) { f.Ans.Pairs = nil },
		func(f *api.Frame) { f.Call.Key = "" },
		func(f *api.Frame) { f.Call.Key = text(300, 5) },
		func(f *api.Frame) { f.Call.To = "\xff" },
		func(f *api.Frame) { f.Call.Group = nil },
		func(f *api.Frame) {
			f.Call.Group = []api.Call{enq("1"), {Group: []api.Call{deq(), {Group: make([]api.Call, 3)}}}}
		},
	}
}

// A phase does not touch what is not told of it: each field in turn has another value.
func TestP18_1_OtherFieldsStay(t *testing.T) {
	for _, c := range []api.Call{enq("1"), deq()} {
		for phase := range api.PhDone {
			// A store of its own for each frame, since a step may change it.
			steps := func(f api.Frame) api.Frame {
				x := newPair(t, 18, 2)
				x.does(enq(text(20, 1)))
				x.both(func(a *arena.Arena) { a.Pool().Mark(4, 0) })
				return x.step(0, f)
			}
			f := set(in(phase, c), func(f *api.Frame) {
				f.Old, f.Line, f.Class, f.Piece, f.Bytes, f.Epoch = api.Link{ID: 1, Ver: 1, Line: 2}, 4, 0, 0, nil, 1
			})
			g := steps(f)
			for i, change := range changes() {
				if h := steps(set(f, change)); !same(h, set(g, change)) {
					t.Errorf("phase %d, change %d: %+v, want %+v", phase, i, h, set(g, change))
				}
			}
		}
	}
}
