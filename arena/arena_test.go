package arena

import (
	"fmt"
	"math"
	"slices"
	"strings"
	"sync"
	"testing"

	"fusee/api"
	"fusee/block"
	"fusee/durable"
	"fusee/fifo"
	"fusee/geom"
	"fusee/limbo"
	"fusee/nvm"
	"fusee/order"
	"fusee/palloc"
	"fusee/reader"
	"fusee/table"
)

// The longest texts that may be, and those of one byte more.
var (
	longKey   = strings.Repeat("k", 16)
	overKey   = strings.Repeat("k", 17)
	longValue = strings.Repeat("v", 400)
	overValue = strings.Repeat("v", 401)
)

func TestExamples(t *testing.T) {
	a, _ := New(10, 1)
	line, _ := a.Pool().Take(0)
	if line != 2 {
		t.Errorf("Take(0) = %d, want 2", line)
	}
	put := []api.Change{{Kind: api.CallPut, Key: "a", Value: "1", Line: line}}
	if hits, e := a.Publish(0, 1, put); !slices.Equal(hits, []bool{false}) || e != api.OK {
		t.Errorf("Publish = %v, %d, want false", hits, e)
	}
	k := api.Link{Key: "a", ID: 1, Ver: 1, Line: 2, Class: 0}
	if got := a.Table().All(); !slices.Equal(got, []api.Link{k}) || !slices.Equal(a.Clock().Owed(), []int{1}) {
		t.Errorf("the table has %v, owed is %v", got, a.Clock().Owed())
	}
	for _, e := range []uint64{1, 2} {
		if hits, code := a.Publish(0, e, put); len(hits) != 0 || code != api.ErrRetry {
			t.Errorf("again in epoch %d: %v, %d, want ErrRetry", e, hits, code)
		}
	}
	if x, e := a.Release(); x != (api.Entry{}) || e != api.ErrIdle {
		t.Errorf("Release = %v, %d, want ErrIdle", x, e)
	}
}

// The sizes of DOC.md, those next to them, and numbers that would be sizes if their upper bits were lost.
func TestP16_1_New(t *testing.T) {
	for _, lines := range []int{10, 11, 17, 18, 64, 257, 258} {
		for threads := 1; threads <= 4; threads++ {
			x := newPair(t, lines, threads)
			if got := x.a.Dev().Lines(); got != lines {
				t.Errorf("New(%d, %d): %d lines", lines, threads, got)
			}
			if got := len(x.a.Pool().Slabs()); got != (lines-2)/8 {
				t.Errorf("New(%d, %d): %d slabs", lines, threads, got)
			}
			if id, ver := x.a.Numbers(); id != 0 || ver != 0 {
				t.Errorf("New(%d, %d): Numbers %d, %d", lines, threads, id, ver)
			}
			if _, e := x.a.Readers().Enter(threads - 1); e != api.OK {
				t.Errorf("New(%d, %d): the last thread may not enter: %d", lines, threads, e)
			}
			if _, e := x.a.Readers().Enter(threads); e != api.ErrArg {
				t.Errorf("New(%d, %d): one thread more may enter: %d", lines, threads, e)
			}
		}
	}
}

func TestP16_1_NewRefused(t *testing.T) {
	wrongLines := []int{9, 259, 0, -1, 1, 2, 8, 260, -10, -258, 512, 1 << 16, 1<<16 + 10, 1<<32 + 10, 1<<61 + 18, -1<<32 + 10, math.MaxInt, math.MinInt, math.MinInt + 10}
	wrongThreads := []int{0, 5, -1, 6, -4, 256, 257, 1<<16 + 1, 1<<32 + 1, 1<<61 + 4, -1<<32 + 1, math.MaxInt, math.MinInt, math.MinInt + 1}
	refused := func(lines, threads int) {
		t.Helper()
		if a, e := New(lines, threads); a != nil || e != api.ErrRange {
			t.Errorf("New(%d, %d) = %v, %d, want ErrRange", lines, threads, a, e)
		}
	}
	for _, lines := range wrongLines {
		for _, threads := range append([]int{1, 4}, wrongThreads...) {
			refused(lines, threads)
		}
	}
	for _, threads := range wrongThreads {
		refused(10, threads)
		refused(258, threads)
	}
}

// The device of a new store is formatted: both lines are persistent, and nothing else was done to it.
func TestP16_1_NewIsFormatted(t *testing.T) {
	for _, lines := range []int{10, 26, 258} {
		a, _ := New(lines, 2)
		d := a.Dev()
		if got, want := d.Counts(), (api.Counts{Stores: 2, Flushes: 2, Fences: 1}); got != want {
			t.Errorf("%d lines: %v, want %v", lines, got, want)
		}
		if len(d.Loose()) != 0 || len(d.Way()) != 0 {
			t.Errorf("%d lines: loose %v, on their way %v", lines, d.Loose(), d.Way())
		}
		d.Cut(nil)
		if v, e := geom.Open(d); v != 0 || e != api.OK {
			t.Errorf("%d lines: Open = %d, %d", lines, v, e)
		}
		for line := 2; line < lines; line++ {
			if b, _ := d.Load(line); string(b) != string(make([]byte, 64)) {
				t.Errorf("line %d is %x", line, b)
			}
		}
	}
}

// A device is formatted once: when it is asked for again, what the clock line has become stays.
func TestP16_1_FormattedOnce(t *testing.T) {
	x := newPair(t, 10, 1)
	x.put("a", "1")
	x.close()
	x.a.format()
	x.same("format, asked again")
	if v, e := geom.Open(x.a.Dev()); v != 1 || e != api.OK {
		t.Errorf("Open = %d, %d, want 1", v, e)
	}
}

// accessors are the components of a store, in one array, so that they can be held against each other.
func accessors(a *Arena) [8]any {
	return [8]any{a.Dev(), a.Pool(), a.Readers(), a.Clock(), a.Bag(), a.Table(), a.Order(), a.Line()}
}

// What an accessor returns is the component itself: the same one each time, and what is done to it is seen in the store.
func TestP16_1_Components(t *testing.T) {
	a, _ := New(26, 3)
	other, _ := New(26, 3)
	first := accessors(a)
	for i, c := range accessors(other) {
		if c == first[i] {
			t.Errorf("component %d is that of another store", i)
		}
	}
	line, _ := a.Pool().Take(1)
	a.Readers().Enter(2)
	a.Readers().Advance()
	if got := a.Rooms(nil).Taken; !slices.Equal(got, []api.Taken{{Line: line, Class: 1}}) {
		t.Errorf("the pool has %v", got)
	}
	a.Clock().Note(1, 9)
	a.Dev().Store(9, 0, []byte{7})
	c := api.Change{Kind: api.CallEnq, Value: strings.Repeat("x", 60), Line: line, Class: 1}
	if _, e := a.Publish(2, 1, []api.Change{c}); e != api.OK {
		t.Fatalf("Publish: %d", e)
	}
	if got := a.Clock().Owed(); !slices.Equal(got, []int{0, 1, 2}) {
		t.Errorf("owed is %v", got)
	}
	a.Bag().Put(api.Entry{Line: 18, Class: 0, Anti: -1})
	if x, e := a.Release(); x != (api.Entry{Line: 18, Anti: -1}) || e != api.OK {
		t.Errorf("Release = %v, %d", x, e)
	}
	if a.Line().Len() != 1 || a.Readers().Now() != 2 || other.Line().Len() != 0 || other.Readers().Now() != 1 {
		t.Errorf("the queue has %d, the other's %d", a.Line().Len(), other.Line().Len())
	}
	if accessors(a) != first {
		t.Error("a component is another one than it was")
	}
}

// found is a block as a revival comes upon it, of the class that its data need.
func found(line, kind int, id, ver uint64, key, value string) api.Found {
	c := need(len(key) + len(value))
	return api.Found{Line: line, Good: true, B: api.Block{Class: c, Kind: kind, ID: id, Ver: ver, Epoch: 1, Key: key, Value: value}}
}

// holding returns a device of so many lines that holds the blocks.
func holding(t *testing.T, lines int, l ...api.Found) *nvm.Dev {
	t.Helper()
	d, e := nvm.New(lines)
	if e != api.OK {
		t.Fatalf("a device of %d lines: %d", lines, e)
	}
	for _, f := range l {
		b, _ := block.Encode(f.B)
		for at := 0; at < len(b); at += 64 {
			d.Store(f.Line+at/64, 0, b[at:at+64])
		}
	}
	return d
}

// over returns the store on a device that holds the blocks, as a pair with its model, having failed the test if it is not one.
func over(t *testing.T, lines, threads int, durable uint64, l ...api.Found) *pair {
	t.Helper()
	d := holding(t, lines, l...)
	m := newModel(lines, threads)
	m.stores, m.now, m.durable = d.Counts().Stores, durable+1, durable
	for line := range lines {
		b, _ := d.Load(line)
		m.memory[line] = string(b)
	}
	var queue []api.Found
	for _, f := range l {
		m.class[f.Line], m.live[f.Line] = f.B.Class, f.B
		m.id, m.ver = max(m.id, f.B.ID), max(m.ver, f.B.Ver)
		if f.B.Kind == api.KindQueue {
			// Ahead of the first one that has a greater Ver, which keeps equal ones in their order.
			at := 0
			for at < len(queue) && queue[at].B.Ver <= f.B.Ver {
				at++
			}
			queue = slices.Insert(queue, at, f)
		}
	}
	for _, f := range queue {
		m.queue = append(m.queue, f.Line)
	}
	hand := roomy(l, strangeFound)
	was := slices.Clone(hand[:cap(hand)])
	counts := d.Counts()
	a, e := Over(d, threads, durable, hand)
	if a == nil || e != api.OK {
		t.Fatalf("Over(.., %d, %d, %v): %v, %d", threads, durable, l, a, e)
	}
	if a.Dev() != d || d.Counts() != counts {
		t.Errorf("the store is on another device, or did something to it: %v", d.Counts())
	}
	if !slices.Equal(hand[:cap(hand)], was) {
		t.Errorf("Over changed what was handed in to %v", hand)
	}
	fill(hand, strangeFound)
	x := &pair{t: t, a: a, m: m}
	x.same("Over")
	return x
}

func TestP16_1_Over(t *testing.T) {
	long := strings.Repeat("l", 91)
	x := over(t, 42, 3, 7,
		found(4, 2, 9, 5, "", "y"),
		found(2, 1, 3, 12, "b", "2"),
		found(10, 2, 4, 2, "", long),
		found(34, 1, 21, 3, "a", longValue),
		found(18, 1, 1, 4, longKey, strings.Repeat("w", 200)),
		found(12, 2, 8, 3, "", long),
		found(9, 2, 2, 1, "", ""),
	)
	// The greatest ID and the greatest Ver are those of two blocks.
	if id, ver := x.a.Numbers(); id != 21 || ver != 12 {
		t.Errorf("Numbers = %d, %d, want 21, 12", id, ver)
	}
	want := api.Shelf{Pairs: []api.Pair{{Key: "a", Value: longValue}, {Key: "b", Value: "2"}, {Key: longKey, Value: strings.Repeat("w", 200)}}, Queue: []string{"", long, long, "y"}}
	if got := x.a.Shelf(); !sameShelf(got, want) {
		t.Errorf("Shelf = %v", got)
	}
	if got := x.a.Pool().Slabs(); !slices.Equal(got, []int{0, 1, 2, -1, 3}) {
		t.Errorf("the slabs are of the classes %v", got)
	}
	if _, closing := x.a.Clock().Closing(); closing || x.a.Clock().Now() != 8 || len(x.a.Clock().Left()) != 0 {
		t.Error("an epoch is being closed")
	}
	if _, some := x.a.Readers().Least(); some || x.a.Readers().Now() != 1 {
		t.Error("a thread is inside")
	}
	// It goes on from there.
	x.put("b", "3")
	x.enq("z")
	x.deq()
	x.del("a")
	if id, ver := x.a.Numbers(); id != 22 || ver != 16 {
		t.Errorf("Numbers = %d, %d, want 22, 16", id, ver)
	}
	x.releaseAll()
	x.same("the end")
}

// A store of no blocks is a new one but for its epochs, on a device that is left as it is, formatted or not.
func TestP16_1_OverNothing(t *testing.T) {
	for _, last := range []uint64{0, 1, 9, 1<<60 - 1, 1 << 60} {
		for _, lines := range []int{10, 258} {
			for threads := 1; threads <= 4; threads++ {
				x := over(t, lines, threads, last)
				if id, ver := x.a.Numbers(); id != 0 || ver != 0 {
					t.Errorf("Numbers = %d, %d", id, ver)
				}
				x.put("a", "1")
				x.del("a")
				x.releaseAll()
				if got := x.a.Clock().Durable(); got != last+3 {
					t.Errorf("Durable is %d behind three epochs from %d on", got, last)
				}
			}
		}
	}
}

// Equal Vers stay in the order of the list, lower ones go ahead, wherever the blocks lie.
func TestP16_1_OverQueue(t *testing.T) {
	for order := range 5 * 5 * 5 * 5 {
		var l []api.Found
		for i := range 4 {
			l = append(l, found(9-2*i, 2, uint64(i+1), uint64(order%5/2+1), "", fmt.Sprint(i)))
			order /= 5
		}
		over(t, 10, 1, 0, l...)
	}
	var l []api.Found
	for i := range 200 {
		l = append(l, found(2+(i*73+5)%256, 2, uint64(i+1), uint64(1+i%7), "", fmt.Sprint(i)))
	}
	over(t, 258, 4, 5, l...)
}

// Blocks fill the device to the last line.
func TestP16_1_OverFull(t *testing.T) {
	var l []api.Found
	for i := range 256 {
		l = append(l, found(257-i, 1+i%2, uint64(i+1), uint64(999-i), strings.Repeat(fmt.Sprint(i), 1-i%2), "v"))
	}
	x := over(t, 258, 1, 3, l...)
	if _, e := x.a.Pool().Take(0); e != api.ErrNoSpace {
		t.Errorf("there is room for one more: %d", e)
	}
	var eights []api.Found
	for i := range 32 {
		eights = append(eights, found(2+8*i, 1, 7, 7, fmt.Sprint(i), longValue))
	}
	over(t, 258, 1, 3, eights...)
}

// The greatest numbers that a store goes on from, and an epoch of a block that is beyond them.
func TestP16_1_OverAtTheEnd(t *testing.T) {
	f := found(2, 1, 1<<60, 1<<60, "a", "1")
	f.B.Epoch = 1 << 61
	x := over(t, 10, 1, 1<<60, f)
	x.put("b", "2")
	x.put("a", "3")
	if id, ver := x.a.Numbers(); id != 1<<60+1 || ver != 1<<60+2 {
		t.Errorf("Numbers = %d, %d", id, ver)
	}
	x.releaseAll()
}

// A device may be used by one store after the other, and by several at once.
func TestP16_1_OverWhatWasPublished(t *testing.T) {
	x := newPair(t, 258, 2)
	for i := range 9 {
		x.put(fmt.Sprint(i%6), strings.Repeat("v", 40*i))
		x.enq(strings.Repeat("q", 20*i))
	}
	x.deq()
	x.del("3")
	a, e := Over(x.a.Dev(), 1, x.a.Clock().Durable(), x.m.found())
	if e != api.OK {
		t.Fatalf("Over: %d", e)
	}
	if !sameShelf(a.Shelf(), x.a.Shelf()) || !slices.Equal(a.Table().All(), x.a.Table().All()) || !slices.Equal(a.Line().All(), x.a.Line().All()) || !slices.Equal(a.Order().All(), x.a.Order().All()) {
		t.Errorf("the store over the same blocks has %v, want %v", a.Shelf(), x.a.Shelf())
	}
	if len(a.Effects()) != 0 || a.Bag().Len() != 0 || len(a.Pool().Taken()) != len(x.m.live) {
		t.Errorf("effects %v, in limbo %v, allocated %v", a.Effects(), a.Bag().All(), a.Pool().Taken())
	}
	x.same("another store on its device")
}

// overArgs are the arguments of Over.
type overArgs struct {
	d       *nvm.Dev
	threads int
	last    uint64
	l       []api.Found
}

// goodArgs are arguments that Over accepts: blocks of both kinds on a device of two slabs.
func goodArgs(t *testing.T) *overArgs {
	l := []api.Found{found(2, 1, 3, 4, "b", "2"), found(10, 2, 4, 2, "", strings.Repeat("l", 50)), found(4, 2, 9, 5, "", "y")}
	return &overArgs{holding(t, 18, l...), 2, 1, l}
}

// wrongArg makes one thing of good arguments wrong, with the number of its error in P16.1's list.
type wrongArg struct {
	number int
	what   string
	spoil  func(x *overArgs)
}

// last puts a block behind the others, changed as change says, and first one ahead of them.
func last(f api.Found, change func(f *api.Found)) func(x *overArgs) {
	change(&f)
	return func(x *overArgs) { x.l = append(x.l, f) }
}

func add(f api.Found) func(x *overArgs) { return last(f, func(*api.Found) {}) }

func first(f api.Found) func(x *overArgs) {
	return func(x *overArgs) { x.l = append([]api.Found{f}, x.l...) }
}

// on puts the store on another device, if it is to be on any.
func on(d *nvm.Dev) func(x *overArgs) {
	return func(x *overArgs) {
		if x.d != nil {
			x.d = d
		}
	}
}

// small is a device that has no room for a slab.
func small(lines int) func(x *overArgs) {
	d, _ := nvm.New(lines)
	return on(d)
}

// wrongNumbers are those that are told ahead of what the blocks are.
func wrongNumbers() []wrongArg {
	return []wrongArg{
		{1, "no device", func(x *overArgs) { x.d = nil }},
		{2, "no thread", func(x *overArgs) { x.threads = 0 }},
		{2, "five threads", func(x *overArgs) { x.threads = 5 }},
		{2, "less than no thread", func(x *overArgs) { x.threads = -1 }},
		{2, "one thread in the low bits", func(x *overArgs) { x.threads = 1<<32 + 1 }},
		{2, "nine lines", small(9)},
		{2, "one line", small(1)},
		{2, "two lines", small(2)},
		{2, "a device of no lines", on(&nvm.Dev{})},
		{3, "durable", func(x *overArgs) { x.last = 1<<60 + 1 }},
		{3, "durable, the greatest number", func(x *overArgs) { x.last = math.MaxUint64 }},
		{3, "an ID", add(found(5, 2, 1<<60+1, 6, "", "z"))},
		{3, "a Ver", add(found(5, 2, 6, 1<<60+1, "", "z"))},
		{3, "an ID of the first one", first(found(5, 1, math.MaxUint64, 6, "z", "z"))},
		{3, "a Ver of the first one", first(found(5, 1, 6, math.MaxUint64, "z", "z"))},
		{3, "an ID of one that is not good", last(found(5, 1, 1<<61, 6, "z", "z"), func(f *api.Found) { f.Good = false })},
		{3, "a Ver of one that may not be", last(found(5, 1, 6, 1<<61+1, "z", "z"), func(f *api.Found) { f.B.Kind = 0 })},
	}
}

// wrongBlocks are blocks that may not be, and wrongPlaces those that may not be where they are.
func wrongBlocks() []wrongArg {
	z := found(5, 1, 6, 6, "z", "z")
	return []wrongArg{
		{4, "not good", last(z, func(f *api.Found) { f.Good = false })},
		{4, "no ID", last(z, func(f *api.Found) { f.B.ID = 0 })},
		{4, "no Ver", last(z, func(f *api.Found) { f.B.Ver = 0 })},
		{4, "no epoch", last(z, func(f *api.Found) { f.B.Epoch = 0 })},
		{4, "an epoch past the end", last(z, func(f *api.Found) { f.B.Epoch = 1<<61 + 1 })},
		{4, "no key", last(z, func(f *api.Found) { f.B.Key = "" })},
		{4, "a key of the queue", last(z, func(f *api.Found) { f.B.Kind = 2 })},
		{4, "a long key", last(z, func(f *api.Found) { f.B.Key = overKey })},
		{4, "a long value", add(found(10, 1, 6, 6, "z", overValue))},
		{4, "a class too great", last(z, func(f *api.Found) { f.Line, f.B.Class = 12, 1 })},
		{4, "a class too small", last(z, func(f *api.Found) { f.B.Value = strings.Repeat("z", 28) })},
		{4, "no class", last(z, func(f *api.Found) { f.B.Class = -1 })},
		{4, "a draft", add(api.Found{Line: 5, Good: true})},
		{4, "an anti", add(found(5, 3, 6, 6, "", ""))},
		{4, "no kind", last(z, func(f *api.Found) { f.B.Kind = 4 })},
		{4, "less than a kind", last(z, func(f *api.Found) { f.B.Kind = -1 })},
		{4, "a key twice", add(found(5, 1, 6, 6, "b", "other"))},
		{4, "a key twice, with all numbers alike", add(found(5, 1, 3, 4, "b", "2"))},
		{4, "zero blocks", func(x *overArgs) { x.l = append(x.l, make([]api.Found, 300)...) }},
	}
}

func wrongPlaces() []wrongArg {
	long := strings.Repeat("z", 60)
	all := []wrongArg{
		{4, "a block twice", add(found(4, 2, 9, 5, "", "y"))},
		{4, "a block in another one's line", add(found(2, 2, 6, 6, "", ""))},
		{4, "a block in another one's further line", add(found(11, 1, 6, 6, "z", "z"))},
		{4, "a block across others", add(found(2, 1, 6, 6, "z", longValue))},
		{4, "a block of another class in the slab", add(found(8, 1, 6, 6, "z", long))},
		{4, "a line where none of the class begins", add(found(13, 1, 6, 6, "z", long))},
		{4, "the least line, of the first one", first(found(math.MinInt, 1, 6, 6, "z", "z"))},
	}
	for _, line := range []int{0, 1, 18, 19, 257, 258, -1, 1<<32 + 5, math.MaxInt, math.MinInt + 5} {
		all = append(all, wrongArg{4, fmt.Sprintf("line %d", line), add(found(line, 1, 6, 6, "z", "z"))})
	}
	return all
}

// Each error alone, and every two of them at once, in both orders: the one that is mentioned first is told.
func TestP16_1_OverRefused(t *testing.T) {
	codes := []api.Errno{0, api.ErrArg, api.ErrRange, api.ErrEnd, api.ErrForm}
	wrong := slices.Concat(wrongNumbers(), wrongBlocks(), wrongPlaces())
	for i, one := range wrong {
		for j, other := range wrong {
			x := goodArgs(t)
			one.spoil(x)
			want := one.number
			if i != j {
				other.spoil(x)
				want = min(want, other.number)
			}
			before := api.Counts{}
			if x.d != nil {
				before = x.d.Counts()
			}
			a, e := Over(x.d, x.threads, x.last, x.l)
			if a != nil || e != codes[want] {
				t.Errorf("%s, %s: %v, %d, want %d", one.what, other.what, a, e, codes[want])
			}
			if x.d != nil && x.d.Counts() != before {
				t.Errorf("%s, %s: something was done to the device: %v", one.what, other.what, x.d.Counts())
			}
		}
	}
	x := goodArgs(t)
	if _, e := Over(x.d, x.threads, x.last, x.l); e != api.OK {
		t.Errorf("without any of them: %d", e)
	}
}

// The last block of a long list counts like the first one, and a long list ends with an answer.
func TestP16_1_OverLongList(t *testing.T) {
	d := holding(t, 258)
	l := slices.Repeat([]api.Found{found(2, 2, 1, 1, "", "")}, 1<<17)
	if a, e := Over(d, 1, 0, l); a != nil || e != api.ErrForm {
		t.Errorf("many blocks in one line: %d", e)
	}
	l[len(l)-1].B.Ver = 1<<60 + 1
	if a, e := Over(d, 1, 0, l); a != nil || e != api.ErrEnd {
		t.Errorf("many blocks in one line, of which the last one is beyond the end: %d", e)
	}
}

// Each fault may be that of any block of the list.
func TestP16_1_OverEveryPlace(t *testing.T) {
	var good []api.Found
	for i := range 8 {
		good = append(good, found(2+i, 1+i%2, uint64(i+1), uint64(i+1), strings.Repeat(fmt.Sprint(i), 1-i%2), "v"))
	}
	over(t, 10, 1, 0, good...)
	for i := range good {
		for code, spoil := range map[api.Errno][]func(f *api.Found){
			api.ErrForm: {func(f *api.Found) { f.Good = false }, func(f *api.Found) { f.B.Kind = 3 }, func(f *api.Found) { f.Line = 2 + (f.Line-1)%8 }, func(f *api.Found) { f.B.Class = 1 }, func(f *api.Found) { f.B.ID = 0 }},
			api.ErrEnd:  {func(f *api.Found) { f.B.ID = 1<<60 + 1 }, func(f *api.Found) { f.B.Ver = 1<<60 + 1 }},
		} {
			for n, change := range spoil {
				l := slices.Clone(good)
				change(&l[i])
				if a, e := Over(holding(t, 10), 1, 0, l); a != nil || e != code {
					t.Errorf("block %d, fault %d: %d, want %d", i, n, e, code)
				}
			}
		}
	}
}

func TestR3_NoArena(t *testing.T) {
	var a *Arena
	if accessors(a) != [8]any{(*nvm.Dev)(nil), (*palloc.Pool)(nil), (*reader.Readers)(nil), (*durable.Clock)(nil), (*limbo.Bag)(nil), (*table.Table)(nil), (*order.Order)(nil), (*fifo.Line)(nil)} {
		t.Errorf("no store has components: %v", accessors(a))
	}
	if id, ver := a.Numbers(); id != 0 || ver != 0 {
		t.Errorf("Numbers = %d, %d", id, ver)
	}
	for _, l := range [][]api.Change{nil, {}, {{Kind: api.CallEnq, Line: 2}}, {{Kind: api.CallDel, Key: "a"}}, {strangeChange}} {
		for _, thread := range []int{0, -1, 4} {
			if hits, e := a.Publish(thread, 1, l); len(hits) != 0 || e != api.ErrArg {
				t.Errorf("Publish(%d, 1, %s) = %v, %d, want ErrArg", thread, tell(l...), hits, e)
			}
		}
	}
	if x, e := a.Release(); x != (api.Entry{}) || e != api.ErrArg {
		t.Errorf("Release = %v, %d, want ErrArg", x, e)
	}
	if l := a.Effects(); len(l) != 0 {
		t.Errorf("Effects = %v", l)
	}
	if s := a.Shelf(); !sameShelf(s, api.Shelf{}) {
		t.Errorf("Shelf = %v", s)
	}
	if r := a.Rooms([]api.Taken{{Line: 2}, {}}); !sameRooms(r, api.Rooms{}) {
		t.Errorf("Rooms = %v", r)
	}
}

// Stores that neither New nor Over made: nothing is promised for them but an answer.
func TestR1_OtherObjects(t *testing.T) {
	a := &Arena{}
	ask(a)
	for _, l := range wrongLists() {
		a.Publish(0, 0, l)
		a.Publish(0, 1, l)
	}
	accessors(a)
}

// ask asks a store for all that it can be asked for.
func ask(a *Arena) {
	a.Numbers()
	a.Release()
	a.Effects()
	a.Shelf()
	a.Rooms(nil)
	a.Rooms([]api.Taken{{Line: math.MinInt, Class: math.MaxInt}, {Line: 3}})
}

// wrongLists are changes with numbers and texts at their ends, alone and together.
func wrongLists() [][]api.Change {
	numbers := []int{math.MinInt, -1 << 32, -1, 0, 1, 2, 3, 9, 10, 257, 258, 1 << 32, math.MaxInt}
	long := strings.Repeat("x", 1<<16)
	lists := [][]api.Change{nil, {}, make([]api.Change, 3), make([]api.Change, 4), make([]api.Change, 5000)}
	for kind := -1; kind <= 9; kind++ {
		for _, n := range numbers {
			for _, text := range []string{"", "a", long} {
				c := api.Change{Kind: kind, Key: text, Value: text, Line: n, Class: n, Old: api.Link{Key: text, ID: uint64(n), Ver: uint64(n), Line: n, Class: n}}
				had := c
				had.Had = true
				lists = append(lists, []api.Change{c}, []api.Change{had}, []api.Change{c, had, c}, []api.Change{had, had, had, had})
			}
		}
	}
	return lists
}

// Wrong lists end with the answer of the model, whatever the thread and the epoch.
func TestR1_WrongInputs(t *testing.T) {
	x := newPair(t, 18, 2)
	x.put("a", "1")
	x.enq("q")
	x.take(0)
	for i, l := range wrongLists() {
		thread, e := []int{0, 1, -1, 2, math.MaxInt, math.MinInt}[i%6], []uint64{1, 0, 2, math.MaxUint64}[i%4]
		if i%3 > 0 {
			thread, e = 0, 1
		}
		hits, code := x.a.Publish(thread, e, l)
		wantHits, want := x.m.publish(thread, e, l)
		if !slices.Equal(hits, wantHits) || code != want {
			t.Fatalf("Publish(%d, %d, %s) = %v, %d, want %v, %d", thread, e, tell(l...), hits, code, wantHits, want)
		}
	}
	x.same("wrong lists")
}

// Components that were changed by somebody else: nothing is promised then but an answer.
func TestR1_ChangedComponents(t *testing.T) {
	links := []api.Link{
		{Key: "a"}, {Key: "a", ID: 1 << 63, Ver: 1 << 63, Line: 2, Class: 99}, {Key: "a", ID: 1, Ver: 1, Line: math.MaxInt, Class: 3},
		{Key: "a", ID: 1, Ver: 1, Line: math.MinInt, Class: -3}, {Key: "a", ID: math.MaxUint64, Line: 257, Class: 1}, {Key: "a", ID: 1, Ver: 1, Line: 5},
	}
	for _, k := range links {
		for kind := api.CallPut; kind <= api.CallDeq; kind++ {
			a, _ := New(10, 1)
			a.Table().Set(k)
			a.Line().Push(k)
			line, _ := a.Pool().Take(0)
			a.Publish(0, 1, []api.Change{{Kind: kind, Key: "a", Had: true, Old: k, Line: line}})
			ask(a)
			a.Bag().Put(api.Entry{Line: 200, Class: 3, Anti: 0})
			a.Bag().Put(api.Entry{Line: 257, Class: 3, Anti: 257})
			ask(a)
			a.Pool().Give(line)
			a.Dev().Cut(nil)
			ask(a)
			done(a)
			ask(a)
			ask(a)
		}
	}
	a, _ := New(10, 1)
	for range 258 {
		a.Bag().Put(api.Entry{Line: 9, D: 5, Anti: -1})
	}
	line, _ := a.Pool().Take(0)
	a.Publish(0, 1, []api.Change{{Kind: api.CallEnq, Line: line}})
	k, _ := a.Line().Head()
	line, _ = a.Pool().Take(0)
	a.Publish(0, 1, []api.Change{{Kind: api.CallDeq, Had: true, Old: k, Line: line}})
	ask(a)
}

// done closes the epoch of now.
func done(a *Arena) {
	a.Clock().Begin()
	for {
		if _, e := a.Clock().Step(a.Dev()); e != api.OK {
			return
		}
	}
}

// Stores of several goroutines do not disturb each other, on devices of their own and with one list of found blocks.
func TestR5_ManyGoroutines(t *testing.T) {
	l := []api.Found{found(2, 1, 3, 4, "b", "2"), found(10, 2, 4, 2, "", strings.Repeat("l", 50)), found(4, 2, 9, 5, "", "y")}
	devices := make([]*nvm.Dev, 8)
	for g := range devices {
		devices[g] = holding(t, 18, l...)
	}
	var wait sync.WaitGroup
	for g := range devices {
		wait.Go(func() {
			if what := goOn(g, devices[g], l); what != "" {
				t.Errorf("goroutine %d: %s", g, what)
			}
		})
	}
	wait.Wait()
}

// goOn makes a store over the blocks and changes it for a while, and returns what was wrong.
func goOn(g int, d *nvm.Dev, l []api.Found) string {
	a, e := Over(d, 2, 1, l)
	if e != api.OK {
		return fmt.Sprintf("Over: %d", e)
	}
	for round := range 60 {
		k, _ := a.Table().Get("b")
		line, e := a.Pool().Take(0)
		if e != api.OK {
			return fmt.Sprintf("Take of round %d: %d", round, e)
		}
		value := fmt.Sprint(g, round)
		if hits, e := a.Publish(1, a.Clock().Now(), []api.Change{{Kind: api.CallPut, Key: "b", Value: value, Had: true, Old: k, Line: line}}); !slices.Equal(hits, []bool{true}) || e != api.OK {
			return fmt.Sprintf("Publish of round %d: %v, %d", round, hits, e)
		}
		if s := a.Shelf(); !slices.Equal(s.Pairs, []api.Pair{{Key: "b", Value: value}}) || len(s.Queue) != 2 {
			return fmt.Sprintf("Shelf of round %d: %v", round, s)
		}
		done(a)
		a.Readers().Advance()
		if x, e := a.Release(); x.Line != k.Line || e != api.OK {
			return fmt.Sprintf("Release of round %d: %v, %d", round, x, e)
		}
	}
	return ""
}
