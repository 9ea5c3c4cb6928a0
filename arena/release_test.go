package arena

import (
	"bytes"
	"fmt"
	"slices"
	"strings"
	"testing"

	"fusee/api"
	"fusee/block"
)

// idle fails the test if a Release is not refused.
func (x *pair) idle(why string) {
	x.t.Helper()
	if got, e := x.release(); got != (api.Entry{}) || e != api.ErrIdle {
		x.t.Errorf("%s: Release = %v, %d, want ErrIdle", why, got, e)
	}
}

// releases fails the test if a Release does not return this entry.
func (x *pair) releases(want api.Entry) {
	x.t.Helper()
	if got, e := x.release(); got != want || e != api.OK {
		x.t.Errorf("Release = %v, %d, want %v", got, e, want)
	}
}

// isFree reports whether no block is allocated at line.
func (x *pair) isFree(line int) bool {
	_, taken := x.a.Pool().Of(line)
	return !taken
}

// The way of a block and of its anti, told without the model: the readers keep it, the epoch keeps it, and the anti waits until the scrubbing is durable.
func TestP16_3_Release(t *testing.T) {
	x := newPair(t, 26, 3)
	x.idle("nothing was unlinked")
	first := x.put("a", strings.Repeat("v", 100))
	second := x.put("a", strings.Repeat("w", 50))
	x.enter(2)
	anti := x.del("a")
	x.idle("the epoch is not durable")
	x.begin()
	for x.step() {
		if x.a.Clock().Durable() == 0 {
			x.idle("the epoch is not durable yet")
		}
	}
	x.idle("a thread is inside that entered ahead of the unlinking")
	x.advance()
	x.enter(1)
	x.idle("the thread is still inside")
	x.leave(2)

	x.releases(api.Entry{Line: first.Line, Class: 2, R: 1, D: 1, Anti: -1})
	x.lies(first.Line, block.Draft(2))
	if !x.isFree(first.Line) || x.isFree(second.Line) || !slices.Equal(x.a.Clock().Owed(), []int{1, 0, 0}) {
		t.Errorf("allocated are %v, owed is %v", x.a.Pool().Taken(), x.a.Clock().Owed())
	}
	x.limbo(api.Entry{Line: second.Line, Class: 1, R: 1, D: 1, Anti: anti.Line})

	x.releases(api.Entry{Line: second.Line, Class: 1, R: 1, D: 1, Anti: anti.Line})
	x.lies(second.Line, block.Draft(1))
	if !x.isFree(second.Line) || x.isFree(anti.Line) || !slices.Equal(x.a.Clock().Owed(), []int{2, 0, 0}) {
		t.Errorf("allocated are %v, owed is %v", x.a.Pool().Taken(), x.a.Clock().Owed())
	}
	// The anti waits for the readers of now, and for the epoch of now, in which the block was scrubbed.
	x.limbo(api.Entry{Line: anti.Line, Class: 0, R: 2, D: 2, Anti: -1})
	x.idle("the scrubbing is not durable")
	if lines := x.close(); !slices.Equal(lines, []int{first.Line, second.Line}) {
		t.Errorf("the lines of the epoch are %v", lines)
	}
	x.idle("a thread is inside that entered ahead of the scrubbing")
	x.leave(1)
	if b, ok := x.a.read(api.Link{ID: 1, Ver: 3, Line: anti.Line}, api.KindAnti); !ok || b.ID != 1 {
		t.Errorf("the anti is %v", b)
	}
	x.releases(api.Entry{Line: anti.Line, Class: 0, R: 2, D: 2, Anti: -1})
	x.lies(anti.Line, block.Draft(0))
	if !slices.Equal(x.a.Clock().Owed(), []int{1, 0, 0}) || x.a.Bag().Len() != 0 || len(x.a.Pool().Taken()) != 0 {
		t.Errorf("owed is %v, in limbo is %v, allocated are %v", x.a.Clock().Owed(), x.a.Bag().All(), x.a.Pool().Taken())
	}
	x.idle("limbo is empty")
	if n := len(x.a.Effects()); n != 3 {
		t.Errorf("there are %d effects", n)
	}
}

// Blocks of each class, of the map and of the queue, with an anti and without: scrubbed as drafts of their classes, and only their heads.
func TestP16_3_ReleaseEachClass(t *testing.T) {
	for c, n := range []int{3, 60, 150, 300} {
		value := strings.Repeat("v", n)
		x := newPair(t, 66, 1)
		put, enq := x.put("k", value), x.enq(value)
		last := x.put("k", "")
		x.deq()
		x.del("k")
		x.close()
		x.advance()
		for _, line := range []int{put.Line, enq.Line, last.Line} {
			was, _ := x.a.Dev().Load(line + 1)
			got, e := x.release()
			if e != api.OK || got.Line != line {
				t.Fatalf("class %d: Release = %v, %d, want line %d", c, got, e, line)
			}
			x.lies(line, block.Draft(got.Class))
			if b, _ := x.a.Dev().Load(line + 1); !bytes.Equal(b, was) {
				t.Errorf("class %d: the line behind the head became %x", c, b)
			}
		}
		x.idle("the antis wait")
		x.releaseAll()
		if taken := x.a.Pool().Taken(); len(taken) != 0 {
			t.Errorf("class %d: allocated are %v", c, taken)
		}
	}
}

// The first entry that is ready goes out, also when the one ahead of it is not, and its block may be allocated at once.
func TestP16_3_ReleaseTheFirstReady(t *testing.T) {
	x := newPair(t, 18, 2)
	a, b, c := x.put("a", "1"), x.put("b", "2"), x.put("c", "3")
	x.del("b")
	x.del("a")
	x.del("c")
	x.close()
	x.advance()
	for _, want := range []int{b.Line, a.Line, c.Line} {
		got, _ := x.release()
		if got.Line != want {
			t.Errorf("line %d went out, want %d", got.Line, want)
		}
		if line := x.take(0); line != want {
			t.Errorf("Take(0) = %d, want %d", line, want)
		}
	}
	// An entry that somebody else put in, which waits for nothing but an epoch that is far off, is passed over.
	y := newPair(t, 10, 1)
	y.put("a", "1")
	far := api.Entry{Line: 9, D: 9, Anti: -1}
	y.a.Bag().Put(far)
	y.m.bag = append(y.m.bag, far)
	y.del("a")
	y.close()
	if got, e := y.release(); got.Line != 2 || e != api.OK {
		t.Errorf("Release = %v, %d", got, e)
	}
}

// With every thread inside in turn: only those that entered ahead of the unlinking are in the way.
func TestP16_3_ReleaseReaders(t *testing.T) {
	for thread := range 4 {
		for _, early := range []bool{true, false} {
			x := newPair(t, 18, 4)
			x.put("a", "1")
			if early {
				x.enter(thread)
			}
			x.put("a", "2")
			x.close()
			x.advance()
			if !early {
				x.enter(thread)
				x.releases(api.Entry{Line: 2, R: 1, D: 1, Anti: -1})
				continue
			}
			x.idle("inside")
			x.leave(thread)
			x.enter(thread)
			x.releases(api.Entry{Line: 2, R: 1, D: 1, Anti: -1})
		}
	}
}

// Effects are all of them, in their order, whatever has become of what they did; Release adds none.
func TestP16_3_Effects(t *testing.T) {
	x := newPair(t, 26, 1)
	if l := x.a.Effects(); len(l) != 0 {
		t.Errorf("a new store has the effects %v", l)
	}
	var want []api.Effect
	for i := range 40 {
		e := x.a.Clock().Now()
		value := fmt.Sprint(i)
		ver := uint64(4*i + 1)
		x.put("a", value)
		x.enq(value)
		x.deq()
		x.del("a")
		want = append(want,
			api.Effect{Kind: 1, Key: "a", Value: value, ID: uint64(2*i + 1), Ver: ver, Epoch: e, Group: int(ver)},
			api.Effect{Kind: 3, Value: value, ID: uint64(2*i + 2), Ver: ver + 1, Epoch: e, Group: int(ver) + 1},
			api.Effect{Kind: 4, ID: uint64(2*i + 2), Ver: ver + 2, Epoch: e, Group: int(ver) + 2},
			api.Effect{Kind: 2, Key: "a", ID: uint64(2*i + 1), Ver: ver + 3, Epoch: e, Group: int(ver) + 3})
		x.releaseAll()
		if got := x.a.Effects(); !slices.Equal(got, want) {
			t.Fatalf("the effects are %v, want %v", got, want)
		}
	}
}

// shelfBase is a store of two pairs and two values, with blocks of several lines.
func shelfBase(t *testing.T) (*pair, [4]api.Change) {
	x := newPair(t, 66, 1)
	l := [4]api.Change{x.put("b", strings.Repeat("b", 60)), x.put("a", strings.Repeat("a", 200)), x.enq(strings.Repeat("x", 300)), x.enq("y")}
	return x, l
}

func TestP16_3_Shelf(t *testing.T) {
	x, _ := shelfBase(t)
	want := api.Shelf{Pairs: []api.Pair{{Key: "a", Value: strings.Repeat("a", 200)}, {Key: "b", Value: strings.Repeat("b", 60)}}, Queue: []string{strings.Repeat("x", 300), "y"}}
	if s := x.a.Shelf(); !sameShelf(s, want) {
		t.Errorf("Shelf = %v, want %v", s, want)
	}
	// A block that is only prepared is not there.
	x.change(api.CallPut, "c", "3")
	x.change(api.CallEnq, "", "z")
	x.change(api.CallDel, "a", "")
	if s := x.a.Shelf(); !sameShelf(s, want) {
		t.Errorf("Shelf = %v, want %v", s, want)
	}
	if s := newPair(t, 10, 1).a.Shelf(); !sameShelf(s, api.Shelf{}) {
		t.Errorf("Shelf of a new store = %v", s)
	}
}

// A link is left out as soon as any byte of its block is another one, and the others stay.
func TestP16_3_ShelfOfOtherBytes(t *testing.T) {
	x, l := shelfBase(t)
	whole := x.a.Shelf()
	for i, c := range l {
		want := api.Shelf{Pairs: slices.Clone(whole.Pairs), Queue: slices.Clone(whole.Queue)}
		switch i {
		case 0:
			want.Pairs = want.Pairs[:1]
		case 1:
			want.Pairs = want.Pairs[1:]
		case 2:
			want.Queue = want.Queue[1:]
		case 3:
			want.Queue = want.Queue[:1]
		}
		for line := c.Line; line < c.Line+1<<c.Class; line++ {
			b, _ := x.a.Dev().Load(line)
			for at := range b {
				x.a.Dev().Store(line, at, []byte{b[at] ^ 0x10})
				if s := x.a.Shelf(); !sameShelf(s, want) {
					t.Fatalf("with another byte %d of line %d: Shelf = %v, want %v", at, line, s, want)
				}
				x.a.Dev().Store(line, at, b[at:at+1])
			}
		}
		if s := x.a.Shelf(); !sameShelf(s, whole) {
			t.Fatalf("with all bytes as they were: Shelf = %v", s)
		}
	}
}

// other is a block that lies in the place of a linked one, and whether it counts as that.
type other struct {
	b    api.Block
	kept bool
}

// of returns a block that differs from b as change says.
func of(b api.Block, change func(b *api.Block)) api.Block {
	change(&b)
	return b
}

// The blocks of b and y in the shelf's base.
func blockOfB() api.Block {
	return api.Block{Class: 1, Kind: 1, ID: 1, Ver: 1, Epoch: 1, Key: "b", Value: strings.Repeat("b", 60)}
}
func blockOfY() api.Block { return api.Block{Kind: 2, ID: 4, Ver: 4, Epoch: 1, Value: "y"} }

// othersOfB and othersOfY are blocks in their places.
func othersOfB() []other {
	b := blockOfB()
	return []other{
		{b, true},
		{of(b, func(b *api.Block) { b.Epoch = 9 }), true},
		{of(b, func(b *api.Block) { b.Value = strings.Repeat("c", 61) }), true},
		{of(b, func(b *api.Block) { b.ID = 2 }), false},
		{of(b, func(b *api.Block) { b.Ver = 2 }), false},
		{of(b, func(b *api.Block) { b.Key = "c" }), false},
		{of(b, func(b *api.Block) { b.Key = "b\x00" }), false},
		{of(b, func(b *api.Block) { b.Kind, b.Key = 2, "" }), false},
		{of(b, func(b *api.Block) { b.Class, b.Value = 0, "" }), false},
		{api.Block{Kind: 3, ID: 1, Ver: 1, Epoch: 1}, false},
		{api.Block{Class: 1}, false},
		{api.Block{}, false},
	}
}

func othersOfY() []other {
	y := blockOfY()
	return []other{
		{y, true},
		{of(y, func(b *api.Block) { b.Epoch = 1 << 61 }), true},
		{of(y, func(b *api.Block) { b.Value = "" }), true},
		{of(y, func(b *api.Block) { b.ID = 3 }), false},
		{of(y, func(b *api.Block) { b.Ver = 5 }), false},
		{of(y, func(b *api.Block) { b.Kind, b.Key = 1, "y" }), false},
		{api.Block{Kind: 3, ID: 4, Ver: 4, Epoch: 1}, false},
		{api.Block{}, false},
	}
}

// lay stores all lines of a block.
func (x *pair) lay(line int, b api.Block) {
	x.t.Helper()
	lines, e := block.Encode(b)
	if e != api.OK {
		x.t.Fatalf("Encode(%v): %d", b, e)
	}
	for at := 0; at < len(lines); at += 64 {
		x.store(line+at/64, lines[at:at+64])
	}
}

// A link is left out if its lines are a block that is another one by its ID, its Ver, its Key, its kind or its class; another epoch or another value is nothing that the link knows.
func TestP16_3_ShelfOfOtherBlocks(t *testing.T) {
	x, l := shelfBase(t)
	a := x.a.Shelf().Pairs[0]
	for _, o := range othersOfB() {
		x.lay(l[0].Line, o.b)
		x.same("another block of b")
		want := []api.Pair{a}
		if o.kept {
			want = append(want, api.Pair{Key: "b", Value: o.b.Value})
		}
		if s := x.a.Shelf(); !slices.Equal(s.Pairs, want) || len(s.Queue) != 2 {
			t.Errorf("with %v for b: Shelf = %v, want %v", o.b, s, want)
		}
	}
	x.lay(l[0].Line, blockOfB())
	first := x.a.Shelf().Queue[0]
	for _, o := range othersOfY() {
		x.lay(l[3].Line, o.b)
		x.same("another block of y")
		want := []string{first}
		if o.kept {
			want = append(want, o.b.Value)
		}
		if s := x.a.Shelf(); !slices.Equal(s.Queue, want) || len(s.Pairs) != 2 {
			t.Errorf("with %v for y: Shelf = %v, want %v", o.b, s, want)
		}
	}
}

// The volatile copies are what counts: a cut brings back the persistent ones, and they are then the volatile ones.
func TestP16_3_ShelfBehindACut(t *testing.T) {
	x := newPair(t, 18, 1)
	first := x.put("a", "1")
	x.close()
	x.put("b", "2")
	x.enq("q")
	if b, _ := x.a.Dev().Durable(first.Line); b[0] != api.TagHead {
		t.Errorf("line %d is not persistent", first.Line)
	}
	x.a.Dev().Cut([]int{4})
	if s := x.a.Shelf(); !sameShelf(s, api.Shelf{Pairs: []api.Pair{{Key: "a", Value: "1"}}, Queue: []string{"q"}}) {
		t.Errorf("Shelf = %v", s)
	}
	if x.a.Table().Len() != 2 {
		t.Error("b has no link")
	}
}

func TestP16_4_Rooms(t *testing.T) {
	x := newPair(t, 66, 1)
	if r := x.a.Rooms(nil); !sameRooms(r, api.Rooms{}) {
		t.Errorf("Rooms of a new store = %v", r)
	}
	z := x.put("z", "1")
	big := x.put("big", strings.Repeat("b", 300))
	a := x.put("a", strings.Repeat("a", 100))
	q := x.enq(strings.Repeat("q", 50))
	gone := x.put("gone", "g")
	z2 := x.put("z", strings.Repeat("z", 200))
	anti := x.del("gone")
	last := x.enq("last")
	free := x.take(1)
	free2 := x.take(0)
	private := []api.Taken{{Line: free2, Class: 0}, {Line: free, Class: 1}, {Line: 3, Class: 2}, {Line: 3, Class: 0}, {Line: 3, Class: 3}, {Line: -5, Class: -7}, {Line: 3, Class: 0}, {Line: 3, Class: -1}}
	got := x.a.Rooms(private)
	want := api.Rooms{
		Taken:   []api.Taken{{Line: z.Line}, {Line: gone.Line}, {Line: anti.Line}, {Line: last.Line}, {Line: free2}, {Line: big.Line, Class: 3}, {Line: a.Line, Class: 2}, {Line: z2.Line, Class: 2}, {Line: q.Line, Class: 1}, {Line: free, Class: 1}},
		Live:    []api.Taken{{Line: last.Line}, {Line: big.Line, Class: 3}, {Line: a.Line, Class: 2}, {Line: z2.Line, Class: 2}, {Line: q.Line, Class: 1}},
		Limbo:   []api.Taken{{Line: z.Line}, {Line: gone.Line}},
		Antis:   []api.Taken{{Line: anti.Line}},
		Private: []api.Taken{{Line: -5, Class: -7}, {Line: 3, Class: -1}, {Line: 3}, {Line: 3}, {Line: 3, Class: 2}, {Line: 3, Class: 3}, {Line: free2}, {Line: free, Class: 1}},
	}
	if !sameRooms(got, want) {
		t.Errorf("Rooms = %v, want %v", got, want)
	}
	x.close()
	x.advance()
	x.release()
	x.release()
	got, want = x.a.Rooms(nil), api.Rooms{Taken: want.Taken[2:], Live: want.Live, Limbo: want.Antis}
	if !sameRooms(got, want) {
		t.Errorf("once both are released: Rooms = %v, want %v", got, want)
	}
}

// Lists are by rising lines, in whatever order blocks came and went.
func TestP16_4_RoomsInOrder(t *testing.T) {
	for seed := range 30 {
		d := dice(seed)
		x := newPair(t, 130, 1)
		x.quiet = true
		for i := range 60 {
			key := fmt.Sprint(d.upTo(12))
			switch d.upTo(5) {
			case 0, 1:
				x.put(key, strings.Repeat("v", d.upTo(90)))
			case 2:
				x.enq(strings.Repeat("q", d.upTo(90)))
			case 3:
				x.del(key)
			case 4:
				if x.a.Line().Len() > 0 {
					x.deq()
				}
			}
			if i%20 == 19 {
				x.releaseAll()
			}
		}
		r := x.a.Rooms(x.private(true))
		for i, l := range [][]api.Taken{r.Taken, r.Live, r.Limbo, r.Antis, r.Private} {
			if !slices.Equal(l, ascending(l)) {
				t.Errorf("list %d is %v", i, l)
			}
		}
		x.quiet = false
		x.same("behind many changes")
	}
}

// A long list of private blocks is put in order, in a time that its length explains.
func TestP16_4_ManyPrivate(t *testing.T) {
	a, _ := New(10, 1)
	var l []api.Taken
	for i := range 1 << 18 {
		l = append(l, api.Taken{Line: (i * 7919) % 1000, Class: (i * 31) % 7})
	}
	was := slices.Clone(l)
	got := a.Rooms(l).Private
	if !slices.Equal(got, ascending(l)) {
		t.Error("a long list is not in order")
	}
	if !slices.Equal(l, was) {
		t.Error("what was handed in was changed")
	}
}

// Results share no memory with the store, with one another, or with what was handed in.
func TestR4_ResultsAreNewMemory(t *testing.T) {
	x, _ := shelfBase(t)
	x.del("a")
	x.take(0)
	private := []api.Taken{{Line: 9}, {Line: 3}}
	s, other := x.a.Shelf(), x.a.Shelf()
	l, effects := x.a.Effects(), x.a.Effects()
	r, rooms := x.a.Rooms(private), x.a.Rooms(private)
	wantS, wantR := x.m.shelf(), x.m.rooms(private)
	fill(s.Pairs, strangePair)
	fill(s.Queue, "a strange text")
	fill(l, strangeEffect)
	fillRooms(r)
	if !sameShelf(other, wantS) || !slices.Equal(effects, x.m.effects) || !sameRooms(rooms, wantR) {
		t.Errorf("another result was changed: %v, %v, %v", other, effects, rooms)
	}
	fill(private, strangeTaken)
	if !sameRooms(rooms, wantR) {
		t.Errorf("a result was changed with what was handed in: %v", rooms)
	}
	// Each list of one result is its own.
	for i := range 5 {
		r := x.a.Rooms([]api.Taken{{Line: 9}, {Line: 3}})
		lists := [][]api.Taken{r.Taken, r.Live, r.Limbo, r.Antis, r.Private}
		fill(lists[i], strangeTaken)
		want := x.m.rooms([]api.Taken{{Line: 9}, {Line: 3}})
		for j, w := range [][]api.Taken{want.Taken, want.Live, want.Limbo, want.Antis, want.Private} {
			if i != j && !slices.Equal(lists[j], w) {
				t.Errorf("list %d was changed with list %d: %v", j, i, lists[j])
			}
		}
	}
	x.same("results that were written over")
}

// What was returned stays as it was, whatever the store does later.
func TestR4_ResultsStay(t *testing.T) {
	type told struct {
		s, wantS api.Shelf
		r, wantR api.Rooms
		l, wantL []api.Effect
		hits     []bool
		wantHits []bool
	}
	x := newPair(t, 34, 2)
	var all []told
	for i := range 30 {
		var n told
		c := x.change([]int{api.CallPut, api.CallEnq, api.CallPut, api.CallDel, api.CallDeq}[i%5], fmt.Sprint(i%3), fmt.Sprint(i))
		n.hits, _ = x.a.Publish(1, x.m.now, []api.Change{c})
		n.wantHits, _ = x.m.publish(1, x.m.now, []api.Change{c})
		n.s, n.wantS = x.a.Shelf(), x.m.shelf()
		n.r, n.wantR = x.a.Rooms(nil), x.m.rooms(nil)
		n.l, n.wantL = x.a.Effects(), slices.Clone(x.m.effects)
		all = append(all, n)
		if i%4 == 3 {
			x.releaseAll()
		}
	}
	for i, n := range all {
		if !sameShelf(n.s, n.wantS) || !sameRooms(n.r, n.wantR) || !slices.Equal(n.l, n.wantL) || !slices.Equal(n.hits, n.wantHits) {
			t.Errorf("what was returned behind change %d is now %v, %v, %v, %v", i, n.s, n.r, n.l, n.hits)
		}
	}
}
