package arena

import (
	"bytes"
	"fmt"
	"math"
	"slices"
	"strings"
	"testing"

	"fusee/api"
	"fusee/block"
)

// headOf returns the first line of a block that may be.
func headOf(t *testing.T, b api.Block) []byte {
	t.Helper()
	lines, e := block.Encode(b)
	if e != api.OK {
		t.Fatalf("Encode(%v): %d", b, e)
	}
	return lines[:64]
}

// lies fails the test if the line's volatile copy is not b, or if its persistent copy is.
func (x *pair) lies(line int, b []byte) {
	x.t.Helper()
	v, _ := x.a.Dev().Load(line)
	p, _ := x.a.Dev().Durable(line)
	if !bytes.Equal(v, b) || bytes.Equal(p, b) {
		x.t.Errorf("line %d is %x, persistent %x, want %x, not persistent", line, v, p, b)
	}
}

// published fails the test if the last effect is not f.
func (x *pair) published(f api.Effect) {
	x.t.Helper()
	l := x.a.Effects()
	if len(l) == 0 || l[len(l)-1] != f {
		x.t.Errorf("the effects are %v, want %v as the last one", l, f)
	}
}

// limbo fails the test if the bag is not this.
func (x *pair) limbo(l ...api.Entry) {
	x.t.Helper()
	if got := x.a.Bag().All(); !slices.Equal(got, l) {
		x.t.Errorf("in limbo is %v, want %v", got, l)
	}
}

// numbers fails the test if Numbers are not these.
func (x *pair) numbers(id, ver uint64) {
	x.t.Helper()
	if i, v := x.a.Numbers(); i != id || v != ver {
		x.t.Errorf("Numbers = %d, %d, want %d, %d", i, v, id, ver)
	}
}

// inEpochTwo publishes a change for thread 1 in epoch 2, and fails the test if the answer is not hit.
func (x *pair) inEpochTwo(c api.Change, hit bool) {
	x.t.Helper()
	if hits, e := x.publish(1, 2, c); !slices.Equal(hits, []bool{hit}) || e != api.OK {
		x.t.Fatalf("%s: %v, %d", tell(c), hits, e)
	}
}

// The chapter's words for one change of each kind, told without the model: by thread 1 of 3, in the readers' epoch 3 and the durable epoch 2.
func TestP16_2_EachKind(t *testing.T) {
	x := newPair(t, 34, 3)
	x.close()
	x.advance()
	x.advance()
	x.take(0)
	twoPuts(t, x)
	anEnqAndTheirEnds(t, x)
	x.inEpochTwo(x.change(api.CallDel, "a", ""), false)
	x.numbers(2, 5)
	// Four lines of the first put, and one of each of the others.
	if got := x.a.Clock().Owed(); !slices.Equal(got, []int{0, 8, 0}) {
		t.Errorf("owed is %v, want 0 8 0", got)
	}
	if lines := x.begin(); !slices.Equal(lines, []int{3, 4, 5, 6, 10, 11, 12, 13}) {
		t.Errorf("the lines of the epoch are %v", lines)
	}
}

func twoPuts(t *testing.T, x *pair) {
	value := strings.Repeat("v", 100)
	x.inEpochTwo(x.change(api.CallPut, "a", value), false)
	a1 := api.Link{Key: "a", ID: 1, Ver: 1, Line: 10, Class: 2}
	if k, ok := x.a.Table().Get("a"); k != a1 || !ok {
		t.Errorf("the link of a is %v, want %v", k, a1)
	}
	if k, ok := x.a.Order().Right(1, "", false); k != a1 || !ok {
		t.Errorf("the order has %v, want %v", k, a1)
	}
	x.lies(10, headOf(t, api.Block{Class: 2, Kind: 1, ID: 1, Ver: 1, Epoch: 2, Key: "a", Value: value}))
	x.published(api.Effect{Kind: 1, Key: "a", Value: value, ID: 1, Ver: 1, Epoch: 2, Group: 1})
	x.limbo()

	x.inEpochTwo(x.change(api.CallPut, "a", "w"), true)
	a2 := api.Link{Key: "a", ID: 1, Ver: 2, Line: 3, Class: 0}
	if k, ok := x.a.Table().Get("a"); k != a2 || !ok || x.a.Table().Len() != 1 || x.a.Order().Len() != 1 {
		t.Errorf("the link of a is %v, want %v", k, a2)
	}
	x.lies(3, headOf(t, api.Block{Kind: 1, ID: 1, Ver: 2, Epoch: 2, Key: "a", Value: "w"}))
	x.published(api.Effect{Kind: 1, Key: "a", Value: "w", ID: 1, Ver: 2, Epoch: 2, Group: 2})
	x.limbo(api.Entry{Line: 10, Class: 2, R: 3, D: 2, Anti: -1})
}

func anEnqAndTheirEnds(t *testing.T, x *pair) {
	x.inEpochTwo(x.change(api.CallEnq, "", "q"), false)
	q := api.Link{ID: 2, Ver: 3, Line: 4, Class: 0}
	if k, ok := x.a.Line().Head(); k != q || !ok {
		t.Errorf("the head is %v, want %v", k, q)
	}
	x.lies(4, headOf(t, api.Block{Kind: 2, ID: 2, Ver: 3, Epoch: 2, Value: "q"}))
	x.published(api.Effect{Kind: 3, Value: "q", ID: 2, Ver: 3, Epoch: 2, Group: 3})

	x.inEpochTwo(x.change(api.CallDel, "a", ""), true)
	if _, ok := x.a.Table().Get("a"); ok || x.a.Order().Len() != 0 {
		t.Error("a is still there")
	}
	x.lies(5, headOf(t, api.Block{Kind: 3, ID: 1, Ver: 4, Epoch: 2}))
	x.published(api.Effect{Kind: 2, Key: "a", ID: 1, Ver: 4, Epoch: 2, Group: 4})
	x.limbo(api.Entry{Line: 10, Class: 2, R: 3, D: 2, Anti: -1}, api.Entry{Line: 3, R: 3, D: 2, Anti: 5})

	x.advance()
	x.inEpochTwo(x.change(api.CallDeq, "", ""), true)
	if x.a.Line().Len() != 0 {
		t.Error("the queue is not empty")
	}
	x.lies(6, headOf(t, api.Block{Kind: 3, ID: 2, Ver: 5, Epoch: 2}))
	x.published(api.Effect{Kind: 4, ID: 2, Ver: 5, Epoch: 2, Group: 5})
	x.limbo(api.Entry{Line: 10, Class: 2, R: 3, D: 2, Anti: -1}, api.Entry{Line: 3, R: 3, D: 2, Anti: 5}, api.Entry{Line: 4, R: 4, D: 2, Anti: 6})
}

// lengths are those at which a class ends or the next one begins, for a key of so many bytes.
func lengths(key int) []int {
	all := []int{0, 1, 399, 400}
	for _, capacity := range []int{28, 91, 217} {
		all = append(all, capacity-key, capacity-key+1)
	}
	return all
}

// Blocks of each class, with keys of one byte and of the greatest length, and values at the ends of the classes: by each thread.
func TestP16_2_EachClass(t *testing.T) {
	for thread := range 4 {
		for _, key := range []string{"a", "ab", longKey} {
			for i, n := range lengths(len(key)) {
				x := newPair(t, 26, 4)
				c := x.change(api.CallPut, key, strings.Repeat(fmt.Sprint(i%10), n))
				x.publish(thread, 1, c)
				if lines := x.begin(); len(lines) != 1<<c.Class || lines[0] != c.Line || lines[len(lines)-1] != c.Line+1<<c.Class-1 {
					t.Errorf("a block of class %d at %d: the lines %v were noted", c.Class, c.Line, lines)
				}
			}
		}
		for i, n := range lengths(0) {
			x := newPair(t, 26, 4)
			c := x.change(api.CallEnq, "", strings.Repeat(fmt.Sprint(i%10), n))
			x.publish(thread, 1, c)
			if lines := x.begin(); len(lines) != 1<<c.Class || lines[0] != c.Line {
				t.Errorf("a block of class %d at %d: the lines %v were noted", c.Class, c.Line, lines)
			}
		}
	}
}

// A value of each class in the place of one of each class, and then a del: what goes into limbo is the old block, of its own class.
func TestP16_2_ClassForClass(t *testing.T) {
	sizes := []int{3, 60, 150, 300}
	for old, n := range sizes {
		for now, m := range sizes {
			x := newPair(t, 66, 1)
			first := x.put("k", strings.Repeat("o", n))
			second := x.put("k", strings.Repeat("n", m))
			x.limbo(api.Entry{Line: first.Line, Class: old, R: 1, D: 1, Anti: -1})
			anti := x.del("k")
			x.limbo(api.Entry{Line: first.Line, Class: old, R: 1, D: 1, Anti: -1}, api.Entry{Line: second.Line, Class: now, R: 1, D: 1, Anti: anti.Line})
			x.enq(strings.Repeat("o", n))
			x.enq(strings.Repeat("n", m))
			x.deq()
			x.deq()
			x.numbers(3, 7)
			x.releaseAll()
		}
	}
}

// Only the head is stored: the further lines are what was written ahead of it, even if that is something else.
func TestP16_2_FurtherLinesStay(t *testing.T) {
	x := newPair(t, 18, 1)
	c := x.change(api.CallPut, "a", strings.Repeat("v", 200))
	junk := bytes.Repeat([]byte{0xee}, 64)
	x.store(c.Line+2, junk)
	if _, e := x.publish(0, 1, c); e != api.OK {
		t.Fatalf("Publish: %d", e)
	}
	x.lies(c.Line+2, junk)
	if s := x.a.Shelf(); len(s.Pairs) != 0 {
		t.Errorf("Shelf = %v, and a line is not the block's", s)
	}
	if x.a.Table().Len() != 1 {
		t.Error("a has no link")
	}
}

// What a change says beside its meaning is not read: Key of an enq and of a deq, Value of a del and of a deq, Had and Old of an enq, Old of a new put, the block of a del that found nothing.
func TestP16_2_NotRead(t *testing.T) {
	x := newPair(t, 18, 1)
	x.put("a", "1")
	junk := api.Link{Key: "z", ID: 77, Ver: 78, Line: 79, Class: 3}
	c := x.change(api.CallEnq, "", "q")
	c.Key, c.Had, c.Old = overKey, true, junk
	if hits, e := x.publish(0, 1, c); !slices.Equal(hits, []bool{false}) || e != api.OK {
		t.Errorf("an enq: %v, %d", hits, e)
	}
	x.published(api.Effect{Kind: 3, Value: "q", ID: 2, Ver: 2, Epoch: 1, Group: 2})
	c = x.change(api.CallPut, "b", "2")
	c.Old = junk
	x.publish(0, 1, c)
	x.published(api.Effect{Kind: 1, Key: "b", Value: "2", ID: 3, Ver: 3, Epoch: 1, Group: 3})
	c = x.change(api.CallDel, "a", "")
	c.Value = overValue
	x.publish(0, 1, c)
	x.published(api.Effect{Kind: 2, Key: "a", ID: 1, Ver: 4, Epoch: 1, Group: 4})
	c = x.change(api.CallDeq, "", "")
	c.Key, c.Value = "b", overValue
	x.publish(0, 1, c)
	x.published(api.Effect{Kind: 4, ID: 2, Ver: 5, Epoch: 1, Group: 5})
	for _, line := range []int{-1, 0, 2, c.Line, 9, 300, math.MaxInt, math.MinInt} {
		for _, key := range []string{"a", "", overKey, "\x00", strings.Repeat("long", 1<<16)} {
			gone := api.Change{Kind: api.CallDel, Key: key, Value: overValue, Old: junk, Line: line, Class: line}
			if hits, e := x.publish(0, 1, gone); !slices.Equal(hits, []bool{false}) || e != api.OK {
				t.Errorf("a del of what is not there: %v, %d", hits, e)
			}
		}
	}
	x.numbers(3, 5)
}

// base returns a store in which a, b and c are keys, two values wait, one key and one value are gone, and blocks of each class are free to be used.
func base(t *testing.T, quiet bool) *pair {
	x := newPair(t, 66, 3)
	x.quiet = quiet
	x.put("a", "1")
	x.put("b", strings.Repeat("b", 60))
	x.put("c", strings.Repeat("c", 200))
	x.put("d", "4")
	x.enq("x")
	x.enq("y")
	x.enq("z")
	x.deq()
	x.del("d")
	x.close()
	x.advance()
	return x
}

// changeOf returns one of eight changes on a base: with links and without, of one key and of several.
func (x *pair) changeOf(which int) api.Change {
	x.t.Helper()
	switch which {
	case 0:
		return x.change(api.CallPut, "new", "n")
	case 1:
		return x.change(api.CallPut, "a", strings.Repeat("A", 80))
	case 2:
		return x.change(api.CallDel, "a", "")
	case 3:
		return x.change(api.CallDel, "c", "")
	case 4:
		return x.change(api.CallDel, "none", "")
	case 5:
		return x.change(api.CallEnq, "", strings.Repeat("q", 30))
	case 6:
		return x.change(api.CallDeq, "", "")
	}
	return x.change(api.CallPut, "b", "B")
}

// Every row of one, two and three of these changes, those that may not be together among them: by the model, and then by a look at what follows from its order.
func TestP16_2_EveryGroup(t *testing.T) {
	for which := range 8 + 8*8 + 8*8*8 {
		x := base(t, false)
		row := []int{which}
		if which >= 8 {
			row = []int{(which - 8) / 8, which % 8}
		}
		if which >= 72 {
			row = []int{(which - 72) / 64, (which - 72) / 8 % 8, which % 8}
		}
		var l []api.Change
		for _, n := range row {
			l = append(l, x.changeOf(n))
		}
		_, ver := x.a.Numbers()
		published := len(x.a.Effects())
		if _, e := x.publish(which%3, 2, l...); e != api.OK {
			continue
		}
		for i, f := range x.a.Effects()[published:] {
			if f.Ver != ver+1+uint64(i) || f.Group != int(ver)+1 || f.Epoch != 2 {
				t.Errorf("%v: effect %d is %v, and the greatest Ver was %d", row, i, f, ver)
			}
		}
		x.releaseAll()
	}
}

// A group, told without the model: each change is seen by those behind it.
func TestP16_2_GroupInOrder(t *testing.T) {
	x := newPair(t, 26, 2)
	x.put("a", "1")
	x.enq("x")
	l := []api.Change{x.change(api.CallEnq, "", "y"), x.change(api.CallDeq, "", ""), x.change(api.CallPut, "b", "2")}
	hits, e := x.publish(1, 1, l...)
	if !slices.Equal(hits, []bool{false, true, false}) || e != api.OK {
		t.Fatalf("Publish = %v, %d", hits, e)
	}
	want := []api.Effect{
		{Kind: 3, Value: "y", ID: 3, Ver: 3, Epoch: 1, Group: 3},
		{Kind: 4, ID: 2, Ver: 4, Epoch: 1, Group: 3},
		{Kind: 1, Key: "b", Value: "2", ID: 4, Ver: 5, Epoch: 1, Group: 3},
	}
	if got := x.a.Effects()[2:]; !slices.Equal(got, want) {
		t.Errorf("the effects are %v, want %v", got, want)
	}
	if s := x.a.Shelf(); !sameShelf(s, api.Shelf{Pairs: []api.Pair{{Key: "a", Value: "1"}, {Key: "b", Value: "2"}}, Queue: []string{"y"}}) {
		t.Errorf("Shelf = %v", s)
	}
	// A del that found nothing has no number: the group begins with the put behind it.
	l = []api.Change{x.change(api.CallDel, "none", ""), x.change(api.CallPut, "a", "3"), x.change(api.CallDel, "b", "")}
	hits, e = x.publish(0, 1, l...)
	if !slices.Equal(hits, []bool{false, true, true}) || e != api.OK {
		t.Fatalf("Publish = %v, %d", hits, e)
	}
	want = []api.Effect{{Kind: 1, Key: "a", Value: "3", ID: 1, Ver: 6, Epoch: 1, Group: 6}, {Kind: 2, Key: "b", ID: 4, Ver: 7, Epoch: 1, Group: 6}}
	if got := x.a.Effects()[5:]; !slices.Equal(got, want) {
		t.Errorf("the effects are %v, want %v", got, want)
	}
	if got := x.a.Clock().Owed(); !slices.Equal(got, []int{4, 3}) {
		t.Errorf("owed is %v, want 4 3", got)
	}
}

// An enq does not make a head for a deq of the same group: what a change was prepared for is asked ahead of all of them.
func TestP16_2_DeqOfNothing(t *testing.T) {
	x := newPair(t, 10, 1)
	enq := x.change(api.CallEnq, "", "x")
	deq := api.Change{Kind: api.CallDeq, Had: true, Line: x.take(0)}
	for _, old := range []api.Link{{}, {ID: 1, Ver: 1, Line: enq.Line}} {
		deq.Old = old
		for _, l := range [][]api.Change{{deq}, {enq, deq}, {deq, enq}} {
			if _, e := x.publish(0, 1, l...); e != api.ErrRetry {
				t.Errorf("%s: %d, want ErrRetry", tell(l...), e)
			}
		}
	}
	// And the queue's only value makes room for the one behind it.
	x.publish(0, 1, enq)
	more := x.change(api.CallEnq, "", "y")
	deq.Old, _ = x.m.head()
	if _, e := x.publish(0, 1, deq, more); e != api.OK || !slices.Equal(x.a.Shelf().Queue, []string{"y"}) {
		t.Errorf("deq and enq: %d, the queue is %v", e, x.a.Shelf().Queue)
	}
}

// strangeTexts are keys and values with zero bytes, with bytes from 128 on, and that are no text, of one byte and of the greatest length.
func strangeTexts() []string {
	var all []string
	for _, s := range []string{"\x00", "\xff", "\x80", "a\x00", "\x00a", "\x01", "\xc3\x28", "\xed\xa0\x80", "\xf0\x9f\x92\xa9", "\x7f\x80", "ä", "\x02\x00\x00\x00"} {
		all = append(all, s, strings.Repeat(s, 16)[:16])
	}
	slices.Sort(all)
	return slices.Compact(all)
}

func TestP16_2_StrangeTexts(t *testing.T) {
	x := newPair(t, 258, 1)
	keys := strangeTexts()
	for i, key := range keys {
		x.put(key, keys[len(keys)-1-i])
		x.enq(strings.Repeat(key, 7))
	}
	s := x.a.Shelf()
	for i, key := range keys {
		if s.Pairs[i] != (api.Pair{Key: key, Value: keys[len(keys)-1-i]}) || s.Queue[i] != strings.Repeat(key, 7) {
			t.Errorf("the pair of %q is %v, what waits is %q", key, s.Pairs[i], s.Queue[i])
		}
	}
	for _, key := range keys {
		x.put(key, strings.Repeat(key, 400)[:400])
		x.del(key)
		x.deq()
		x.releaseAll()
	}
}

// trial is a base store with changes that may be published, of thread 0 in epoch 2.
type trial struct {
	*pair
	thread int
	epoch  uint64
	l      []api.Change
}

// The two lists of changes that faults are made in.
func (x *pair) threeChanges(other bool) []api.Change {
	x.t.Helper()
	if other {
		return []api.Change{x.change(api.CallPut, "a", "2"), x.change(api.CallEnq, "", "v"), x.change(api.CallDel, "none", "")}
	}
	return []api.Change{x.change(api.CallPut, "new", "n"), x.change(api.CallDel, "a", ""), x.change(api.CallDeq, "", "")}
}

func newTrial(t *testing.T, other bool) *trial {
	x := &trial{base(t, true), 0, 2, nil}
	x.l = x.threeChanges(other)
	x.quiet = false
	return x
}

// fault makes one thing of a trial wrong, with the number of its error in P16.2's list.
type fault struct {
	number int
	what   string
	make   func(x *trial)
}

// commonFaults are those of any list.
func commonFaults() []fault {
	var all []fault
	for _, thread := range []int{-1, 3, -3, 4, 256, 1 << 32, 1<<61 + 1, math.MaxInt, math.MinInt} {
		all = append(all, fault{1, fmt.Sprintf("thread %d", thread), func(x *trial) { x.thread = thread }})
	}
	for _, e := range []uint64{0, 1, 3, 258, 1<<32 + 2, 1<<61 + 2, 1<<63 + 2, math.MaxUint64} {
		all = append(all, fault{2, fmt.Sprintf("epoch %d", e), func(x *trial) { x.epoch = e }})
	}
	for i := range 3 {
		for _, kind := range []int{0, 1, 6, 7, 8, 9, -1, -2, 258, 1<<32 + 2, 1<<61 + 5, math.MinInt, math.MaxInt} {
			all = append(all, fault{1, fmt.Sprintf("kind %d of change %d", kind, i), func(x *trial) { x.l[i%len(x.l)].Kind = kind }})
		}
	}
	return append(all,
		fault{1, "four changes", func(x *trial) { x.l = append(x.l, x.change(api.CallEnq, "", "w")) }},
		fault{1, "five hundred changes", func(x *trial) {
			x.l = append(x.l, slices.Repeat([]api.Change{{Kind: api.CallEnq}}, 500)...)
		}},
		fault{1, "a deq that had nothing", func(x *trial) { x.l = append(x.l[:2:2], api.Change{Kind: api.CallDeq, Line: x.take(0)}) }},
		fault{1, "two deqs", func(x *trial) {
			x.l = []api.Change{x.change(api.CallDeq, "", ""), x.l[0], x.change(api.CallDeq, "", "")}
		}},
		fault{1, "two puts of a key", func(x *trial) {
			x.l = []api.Change{x.change(api.CallPut, "b", "1"), x.l[1], x.change(api.CallPut, "b", "2")}
		}},
		fault{1, "two dels of a key", func(x *trial) {
			x.l = []api.Change{x.change(api.CallDel, "b", ""), x.change(api.CallDel, "b", ""), x.l[2]}
		}},
		fault{1, "a put and a del of a key", func(x *trial) { x.l = append(x.l[:2:2], x.change(api.CallDel, x.l[0].Key, "")) }},
		fault{1, "two dels of what is not there", func(x *trial) {
			x.l = []api.Change{{Kind: api.CallDel}, x.l[1], {Kind: api.CallDel}}
		}},
		fault{5, "no Ver is left", func(x *trial) { x.setNumbers(7, 1<<61) }},
		fault{5, "one Ver is left", func(x *trial) { x.setNumbers(7, 1<<61-1) }},
		fault{5, "no ID is left", func(x *trial) { x.setNumbers(1<<61, 70) }},
	)
}

// setNumbers makes the numbers those that a store has after very many changes.
func (x *pair) setNumbers(id, ver uint64) {
	x.a.id.Store(id)
	x.a.ver.Store(ver)
	x.m.id, x.m.ver = id, ver
}

// oldFaults are those of change i, which has found a link.
func oldFaults(i int) []fault {
	var all []fault
	other := func(what string, change func(k *api.Link)) {
		all = append(all, fault{2, fmt.Sprintf("another link, by its %s, of change %d", what, i), func(x *trial) { change(&x.l[i%len(x.l)].Old) }})
	}
	other("Key", func(k *api.Link) { k.Key += "\x00" })
	other("ID, a lesser one", func(k *api.Link) { k.ID-- })
	other("ID, a greater one", func(k *api.Link) { k.ID++ })
	other("ID, in its upper bits", func(k *api.Link) { k.ID += 1 << 40 })
	other("Ver, a lesser one", func(k *api.Link) { k.Ver-- })
	other("Ver, a greater one", func(k *api.Link) { k.Ver++ })
	other("Ver, in its upper bits", func(k *api.Link) { k.Ver += 1 << 40 })
	other("Line", func(k *api.Link) { k.Line++ })
	other("Class", func(k *api.Link) { k.Class++ })
	other("fields, all of which are zero", func(k *api.Link) { *k = api.Link{} })
	return all
}

// blockFaults are those of change i, which has a block of class 0.
func blockFaults(i int) []fault {
	var all []fault
	at := func(number int, what string, line func(x *trial) int) {
		all = append(all, fault{number, fmt.Sprintf("%s, of change %d", what, i), func(x *trial) { x.l[i%len(x.l)].Line = line(x) }})
	}
	for _, line := range []int{0, 1, -1, 64, 65, 66, 257, 258, 1 << 32, 1<<32 + 2, math.MaxInt, math.MinInt, math.MinInt + 2} {
		at(3, fmt.Sprintf("line %d", line), func(*trial) int { return line })
	}
	at(3, "a block that is free", func(x *trial) int { return x.a.Pool().Free(0)[0] })
	at(3, "a block that was given back", func(x *trial) int { line := x.take(0); x.give(line); return line })
	at(3, "the line of a block of another class", func(x *trial) int { return x.take(2) })
	at(3, "the line behind a greater block's", func(x *trial) int { return x.take(2) + 1 })
	at(3, "the block of a key", func(x *trial) int { return linkOfKind(x.m, 1) })
	at(3, "the block of what waits first", func(x *trial) int { return x.m.queue[0] })
	at(3, "the block of what waits last", func(x *trial) int { return x.m.queue[1] })
	at(3, "a block in limbo", func(x *trial) int { return x.m.bag[0].Line })
	at(3, "the last block in limbo", func(x *trial) int { return x.m.bag[len(x.m.bag)-1].Line })
	at(3, "an anti", func(x *trial) int { return x.m.bag[0].Anti })
	at(3, "the last anti", func(x *trial) int { return x.m.bag[len(x.m.bag)-1].Anti })
	at(3, "an anti that is itself in limbo", func(x *trial) int {
		x.advance()
		entry, _ := x.a.Release()
		x.m.release()
		return entry.Anti
	})
	at(3, "another change's block", func(x *trial) int { return x.l[(i+1)%2%len(x.l)].Line })
	for _, c := range []int{-1, 1, 2, 3, 4, 256, 1 << 32, math.MinInt, math.MaxInt} {
		all = append(all, fault{3, fmt.Sprintf("class %d, of change %d", c, i), func(x *trial) { x.l[i%len(x.l)].Class = c }})
	}
	for c := 1; c < 4; c++ {
		all = append(all, fault{4, fmt.Sprintf("a block of class %d, of change %d", c, i), func(x *trial) {
			x.l[i%len(x.l)].Class, x.l[i%len(x.l)].Line = c, x.take(c)
		}})
	}
	return all
}

// linkOfKind returns the line of a block of class 0 of this kind.
func linkOfKind(m *model, kind int) int {
	for line := range m.lines {
		if b := m.live[line]; b.Kind == kind && b.Class == 0 {
			return line
		}
	}
	return 0
}

// valueFaults are those of change i, which writes a payload, and has a block of class 0.
func valueFaults(i int) []fault {
	var all []fault
	for _, value := range []string{strings.Repeat("v", 29), strings.Repeat("v", 217), longValue, overValue, strings.Repeat("v", 1<<16)} {
		all = append(all, fault{4, fmt.Sprintf("a value of %d bytes, of change %d", len(value), i), func(x *trial) { x.l[i%len(x.l)].Value = value }})
	}
	return append(all, fault{4, fmt.Sprintf("a value of a byte too many, with the greatest block, of change %d", i), func(x *trial) {
		c := &x.l[i%len(x.l)]
		c.Value, c.Class, c.Line = overValue, 3, x.take(3)
	}})
}

// firstFaults are those of the first list of changes, and otherFaults those of the other one.
func firstFaults() []fault {
	all := slices.Concat(commonFaults(), oldFaults(1), oldFaults(2), blockFaults(0), blockFaults(1), blockFaults(2), valueFaults(0))
	key := func(number int, what, key string) fault {
		return fault{number, what, func(x *trial) { x.l[0].Key = key }}
	}
	return append(all,
		key(2, "a new key that is there", "b"),
		key(1, "a new key that the next change removes", "a"),
		key(4, "no key", ""),
		key(4, "a key of a byte too many", overKey),
		key(4, "a key of many bytes too many", strings.Repeat("k", 1<<16)),
		fault{2, "a key that is gone", func(x *trial) { x.l[0].Had = true }},
		fault{2, "a del of what is there as if it were not", func(x *trial) { x.l[1].Had = false }},
		fault{2, "a key that was removed", func(x *trial) { x.l[1].Key = "d" }},
		fault{2, "another key's link", func(x *trial) { x.l[1].Old, _ = x.m.find("b") }},
		fault{2, "the second of what waits", func(x *trial) { x.l[2%len(x.l)].Old = x.m.link(x.m.queue[1]) }},
		fault{2, "a key's link for what waits first", func(x *trial) { x.l[2%len(x.l)].Old, _ = x.m.find("b") }},
	)
}

func otherFaults() []fault {
	all := slices.Concat(commonFaults(), oldFaults(0), blockFaults(0), blockFaults(1), valueFaults(0), valueFaults(1))
	return append(all,
		fault{2, "a put of what is there as if it were not", func(x *trial) { x.l[0].Had = false }},
		fault{2, "a put of what is not there as if it were", func(x *trial) { x.l[0].Key = "none at all" }},
		fault{2, "a del of what is not there as if it were", func(x *trial) { x.l[2].Had = true }},
	)
}

// Each error alone: it is told, and nothing has changed, as often as it is asked.
func TestP16_2_Refused(t *testing.T) {
	codes := []api.Errno{0, api.ErrArg, api.ErrRetry, api.ErrArg, api.ErrForm, api.ErrEnd}
	for i, faults := range [][]fault{firstFaults(), otherFaults()} {
		for _, f := range faults {
			x := newTrial(t, i > 0)
			f.make(x)
			for range 2 {
				if _, e := x.publish(x.thread, x.epoch, x.l...); e != codes[f.number] {
					t.Errorf("%s: %d, want %d", f.what, e, codes[f.number])
				}
			}
		}
		x := newTrial(t, i > 0)
		if _, e := x.publish(0, 2, x.l...); e != api.OK {
			t.Errorf("without any of them: %d", e)
		}
	}
	x := base(t, false)
	if _, e := x.publish(0, 2); e != api.ErrArg {
		t.Errorf("no change: %d", e)
	}
}

// Every two errors at once: the one that is mentioned first is told. By the model, since one may undo the other.
func TestP16_2_TwoFaults(t *testing.T) {
	told := map[api.Errno]int{}
	for i, faults := range [][]fault{firstFaults(), otherFaults()} {
		for n, f := range faults {
			for m := n % 11; m < len(faults); m += 11 {
				x := newTrial(t, i > 0)
				f.make(x)
				faults[m].make(x)
				_, want := x.m.publish(x.thread, x.epoch, x.l)
				if want == api.OK {
					continue
				}
				if hits, e := x.a.Publish(x.thread, x.epoch, x.l); len(hits) != 0 || e != want {
					t.Fatalf("%s, %s: %v, %d, want %d", f.what, faults[m].what, hits, e, want)
				}
				told[want]++
				x.same(f.what + ", " + faults[m].what)
			}
		}
	}
	for _, e := range []api.Errno{api.ErrArg, api.ErrRetry, api.ErrForm, api.ErrEnd} {
		if told[e] == 0 {
			t.Errorf("error %d was never told", e)
		}
	}
}

// One fault of each number, in different changes, so that neither undoes the other: each two of them, and all of them.
func TestP16_2_ErrorsInOrder(t *testing.T) {
	codes := []api.Errno{0, api.ErrArg, api.ErrRetry, api.ErrArg, api.ErrForm, api.ErrEnd}
	faults := []fault{
		{1, "no thread", func(x *trial) { x.thread = 3 }},
		{2, "no link", func(x *trial) { x.l[2].Old.Ver++ }},
		{3, "no block", func(x *trial) { x.l[1].Line = 60 }},
		{4, "a value too long", func(x *trial) { x.l[0].Value = overValue }},
		{5, "the end", func(x *trial) { x.setNumbers(9, 1<<61) }},
	}
	for which := 1; which < 1<<len(faults); which++ {
		x := newTrial(t, false)
		want := 0
		for i, f := range faults {
			if which>>i&1 == 1 {
				f.make(x)
				if want == 0 {
					want = f.number
				}
			}
		}
		if _, e := x.publish(x.thread, x.epoch, x.l...); e != codes[want] {
			t.Errorf("faults %b: %d, want %d", which, e, codes[want])
		}
	}
}

// The numbers go up to MaxNumber, and no further: a change that needs none is let through, and one without a new ID needs no ID.
func TestP16_2_AtTheEnd(t *testing.T) {
	const end = 1 << 61
	try := func(id, ver uint64, want api.Errno, kinds ...int) {
		t.Helper()
		x := base(t, false)
		x.setNumbers(id, ver)
		var l []api.Change
		for _, kind := range kinds {
			l = append(l, x.changeOf(kind))
		}
		if _, e := x.publish(0, 2, l...); e != want {
			t.Errorf("the changes %v with %d, %d: %d, want %d", kinds, id, ver, e, want)
		}
	}
	for kind := range 8 {
		needsVer, needsID := kind != 4, kind == 0 || kind == 5
		try(end-1, end-1, api.OK, kind)
		want := api.OK
		if needsVer {
			want = api.ErrEnd
		}
		try(8, end, want, kind)
		want = api.OK
		if needsID {
			want = api.ErrEnd
		}
		try(end, 8, want, kind)
	}
	try(end-2, end-3, api.OK, 0, 5, 6)
	try(end-1, end-3, api.ErrEnd, 0, 5, 6)
	try(end-2, end-2, api.ErrEnd, 0, 5, 6)
	try(end, end-3, api.OK, 1, 3, 6)
	try(end, end-2, api.OK, 1, 4, 6)
	try(end, end-2, api.ErrEnd, 1, 3, 6)
	try(end, end, api.OK, 4)
	x := base(t, false)
	x.setNumbers(end-1, end-1)
	x.put("new", "n")
	x.numbers(end, end)
	x.published(api.Effect{Kind: 1, Key: "new", Value: "n", ID: end, Ver: end, Epoch: 2, Group: end})
}

// What is refused goes through once what was wrong with it is put right.
func TestP16_2_Again(t *testing.T) {
	x := newPair(t, 18, 2)
	one, two := x.change(api.CallPut, "a", "1"), x.change(api.CallPut, "a", "2")
	x.publish(0, 1, one)
	if _, e := x.publish(1, 1, two); e != api.ErrRetry {
		t.Errorf("the second put: %d", e)
	}
	two.Old, two.Had = x.m.find("a")
	x.close()
	if _, e := x.publish(1, 1, two); e != api.ErrRetry {
		t.Errorf("in an epoch that is over: %d", e)
	}
	if hits, e := x.publish(1, 2, two); !slices.Equal(hits, []bool{true}) || e != api.OK {
		t.Errorf("with the link and the epoch: %v, %d", hits, e)
	}
	if got := x.a.Shelf().Pairs; !slices.Equal(got, []api.Pair{{Key: "a", Value: "2"}}) {
		t.Errorf("the pairs are %v", got)
	}
}

// A publish goes by the epoch in which threads work, whether or not the one ahead of it is still being closed.
func TestP16_2_WhileClosing(t *testing.T) {
	x := newPair(t, 18, 1)
	early := x.change(api.CallPut, "a", "1")
	late := x.change(api.CallPut, "b", "2")
	x.publish(0, 1, early)
	for x.begin(); ; {
		if _, e := x.publish(0, 1, late); e != api.ErrRetry {
			t.Fatalf("in the epoch that is being closed: %d", e)
		}
		if !x.step() {
			break
		}
	}
	x.begin()
	x.put("c", "3")
	x.published(api.Effect{Kind: 1, Key: "c", Value: "3", ID: 2, Ver: 2, Epoch: 3, Group: 2})
}
