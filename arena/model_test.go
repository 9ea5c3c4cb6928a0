package arena

import (
	"cmp"
	"fmt"
	"maps"
	"slices"
	"sort"
	"strings"
	"testing"

	"fusee/api"
	"fusee/block"
	"fusee/geom"
)

// model is the chapter's store, written another way: what each allocated block is, by its line, and of the device the volatile bytes alone. What can be worked out of these, such as the link of a key, is not kept.
type model struct {
	lines, threads int
	memory         map[int]string
	stores         int
	class          map[int]int
	live           map[int]api.Block
	queue          []int
	bag            []api.Entry
	owed           map[int]int
	noted          map[int]bool
	now, durable   uint64
	epoch          uint64
	inside         map[int]uint64
	id, ver        uint64
	effects        []api.Effect
}

func newModel(lines, threads int) *model {
	m := &model{
		lines: lines, threads: threads, memory: map[int]string{}, class: map[int]int{}, live: map[int]api.Block{},
		owed: map[int]int{}, noted: map[int]bool{}, now: 1, epoch: 1, inside: map[int]uint64{},
	}
	super, _ := geom.Super(lines)
	m.store(0, super)
	m.store(1, geom.Clock(0))
	return m
}

func (m *model) store(line int, b []byte) {
	m.memory[line] = string(b)
	m.stores++
}

// bytes are the bytes of so many lines from line on.
func (m *model) bytes(line, n int) []byte {
	var all []byte
	for i := range n {
		s, ok := m.memory[line+i]
		if !ok {
			s = string(make([]byte, 64))
		}
		all = append(all, s...)
	}
	return all
}

func (m *model) link(line int) api.Link {
	b := m.live[line]
	return api.Link{Key: b.Key, ID: b.ID, Ver: b.Ver, Line: line, Class: b.Class}
}

// find is the table's link of the key.
func (m *model) find(key string) (api.Link, bool) {
	for line, b := range m.live {
		if b.Kind == api.KindMap && b.Key == key {
			return m.link(line), true
		}
	}
	return api.Link{}, false
}

// head is the queue's first link.
func (m *model) head() (api.Link, bool) {
	for _, line := range m.queue {
		return m.link(line), true
	}
	return api.Link{}, false
}

// links are the links of the map by rising keys.
func (m *model) links() []api.Link {
	var l []api.Link
	for line, b := range m.live {
		if b.Kind == api.KindMap {
			l = append(l, m.link(line))
		}
	}
	sort.Slice(l, func(i, j int) bool { return l[i].Key < l[j].Key })
	return l
}

// waiting are the links of the queue.
func (m *model) waiting() []api.Link {
	var l []api.Link
	for _, line := range m.queue {
		l = append(l, m.link(line))
	}
	return l
}

// writes returns the block that a change writes, with ID and Ver 1, and whether it writes one.
func writes(c api.Change, e uint64) (api.Block, bool) {
	switch c.Kind {
	case api.CallPut:
		return api.Block{Class: c.Class, Kind: 1, ID: 1, Ver: 1, Epoch: e, Key: c.Key, Value: c.Value}, true
	case api.CallEnq:
		return api.Block{Class: c.Class, Kind: 2, ID: 1, Ver: 1, Epoch: e, Value: c.Value}, true
	case api.CallDeq:
		return api.Block{Kind: 3, ID: 1, Ver: 1, Epoch: e}, true
	case api.CallDel:
		return api.Block{Kind: 3, ID: 1, Ver: 1, Epoch: e}, c.Had
	}
	return api.Block{}, false
}

// isUsed reports whether the block at line belongs to a link or to an entry, or is an Anti.
func (m *model) isUsed(line int) bool {
	_, live := m.live[line]
	return live || slices.ContainsFunc(m.bag, func(x api.Entry) bool { return x.Line == line || x.Anti == line })
}

// faults returns all numbers of P16.2's list that hold, in any order.
func (m *model) faults(t int, e uint64, l []api.Change) []int {
	var all []int
	when := func(is bool, number int) {
		if is {
			all = append(all, number)
		}
	}
	when(t < 0 || t >= m.threads || len(l) < 1 || len(l) > 3, 1)
	when(e != m.now, 2)
	id, ver := m.id, m.ver
	for i, c := range l {
		when(c.Kind < 2 || c.Kind > 5 || c.Kind == 5 && !c.Had, 1)
		b, needs := writes(c, e)
		switch c.Kind {
		case api.CallPut, api.CallDel:
			k, has := m.find(c.Key)
			when(c.Had && (!has || k != c.Old) || !c.Had && has, 2)
		case api.CallDeq:
			k, has := m.head()
			when(!has || k != c.Old, 2)
		}
		if needs {
			of, ok := m.class[c.Line]
			when(!ok || of != c.Class || m.isUsed(c.Line), 3)
			when(!block.May(b) || b.Class != c.Class, 4)
			ver++
			if c.Kind == api.CallEnq || c.Kind == api.CallPut && !c.Had {
				id++
			}
		}
		for _, other := range l[:i] {
			_, otherNeeds := writes(other, e)
			when(c.Kind < 4 && other.Kind < 4 && c.Key == other.Key || c.Kind == 5 && other.Kind == 5, 1)
			when(needs && otherNeeds && c.Line == other.Line, 3)
		}
	}
	when(id > 1<<61 || ver > 1<<61, 5)
	return all
}

// publish is P16.2.
func (m *model) publish(t int, e uint64, l []api.Change) ([]bool, api.Errno) {
	if all := m.faults(t, e, l); len(all) > 0 {
		return nil, []api.Errno{0, api.ErrArg, api.ErrRetry, api.ErrArg, api.ErrForm, api.ErrEnd}[slices.Min(all)]
	}
	var hits []bool
	group := int(m.ver) + 1
	for _, c := range l {
		hits = append(hits, c.Had && c.Kind != api.CallEnq)
		if b, needs := writes(c, e); needs {
			m.ver++
			m.perform(t, c, b, group)
		}
	}
	return hits, api.OK
}

// perform makes a change of which b is the block but for its ID.
func (m *model) perform(t int, c api.Change, b api.Block, group int) {
	b.Ver = m.ver
	b.ID = c.Old.ID
	if c.Kind == api.CallEnq || c.Kind == api.CallPut && !c.Had {
		m.id++
		b.ID = m.id
	}
	lines, _ := block.Encode(b)
	m.store(c.Line, lines[:64])
	for i := range len(lines) / 64 {
		m.note(t, c.Line+i)
	}
	f := api.Effect{ID: b.ID, Ver: b.Ver, Epoch: b.Epoch, Group: group}
	switch c.Kind {
	case api.CallPut:
		f.Kind, f.Key, f.Value = 1, c.Key, c.Value
		if c.Had {
			m.unlink(c.Old.Line, -1)
		}
		m.live[c.Line] = b
	case api.CallDel:
		f.Kind, f.Key = 2, c.Key
		m.unlink(c.Old.Line, c.Line)
	case api.CallEnq:
		f.Kind, f.Value = 3, c.Value
		m.live[c.Line] = b
		m.queue = append(m.queue, c.Line)
	case api.CallDeq:
		f.Kind = 4
		m.unlink(m.queue[0], c.Line)
		m.queue = m.queue[1:]
	}
	m.effects = append(m.effects, f)
}

// unlink puts a linked block into limbo.
func (m *model) unlink(line, anti int) {
	m.bag = append(m.bag, api.Entry{Line: line, Class: m.class[line], R: m.epoch, D: m.now, Anti: anti})
	delete(m.live, line)
}

func (m *model) note(t, line int) {
	m.owed[t]++
	m.noted[line] = true
}

// release is P16.3's Release.
func (m *model) release() (api.Entry, api.Errno) {
	for i, x := range m.bag {
		ready := x.D <= m.durable
		for _, announced := range m.inside {
			ready = ready && announced > x.R
		}
		if !ready {
			continue
		}
		m.bag = slices.Concat(m.bag[:i], m.bag[i+1:])
		m.store(x.Line, block.Draft(x.Class))
		m.note(0, x.Line)
		delete(m.class, x.Line)
		if x.Anti >= 0 {
			m.bag = append(m.bag, api.Entry{Line: x.Anti, Class: 0, R: m.epoch, D: m.now, Anti: -1})
		}
		return x, api.OK
	}
	return api.Entry{}, api.ErrIdle
}

// value is what the volatile lines of a link hold, if they hold its block.
func (m *model) value(k api.Link, kind int) (string, bool) {
	b, ok := block.Decode(m.bytes(k.Line, 1<<k.Class))
	return b.Value, ok && b.Kind == kind && b.ID == k.ID && b.Ver == k.Ver && b.Key == k.Key
}

// shelf is P16.3's Shelf.
func (m *model) shelf() api.Shelf {
	var s api.Shelf
	for _, k := range m.links() {
		if v, ok := m.value(k, 1); ok {
			s.Pairs = append(s.Pairs, api.Pair{Key: k.Key, Value: v})
		}
	}
	for _, k := range m.waiting() {
		if v, ok := m.value(k, 2); ok {
			s.Queue = append(s.Queue, v)
		}
	}
	return s
}

// ascending returns the blocks by rising lines, and those of one line by rising classes.
func ascending(l []api.Taken) []api.Taken {
	l = slices.Clone(l)
	sort.Slice(l, func(i, j int) bool {
		return l[i].Line < l[j].Line || l[i].Line == l[j].Line && l[i].Class < l[j].Class
	})
	return l
}

// rooms is P16.4.
func (m *model) rooms(private []api.Taken) api.Rooms {
	var r api.Rooms
	for line, c := range m.class {
		r.Taken = append(r.Taken, api.Taken{Line: line, Class: c})
	}
	for line, b := range m.live {
		r.Live = append(r.Live, api.Taken{Line: line, Class: b.Class})
	}
	for _, x := range m.bag {
		r.Limbo = append(r.Limbo, api.Taken{Line: x.Line, Class: x.Class})
		if x.Anti != -1 {
			r.Antis = append(r.Antis, api.Taken{Line: x.Anti})
		}
	}
	return api.Rooms{Taken: ascending(r.Taken), Live: ascending(r.Live), Limbo: ascending(r.Limbo), Antis: ascending(r.Antis), Private: ascending(private)}
}

// What is written over lists, and lies behind them: no test has it in a store.
var (
	strangeChange = api.Change{Kind: 99, Key: "a strange key", Value: "strange", Line: -99, Class: -9}
	strangeTaken  = api.Taken{Line: -77, Class: 77}
	strangeFound  = api.Found{Line: -99, B: api.Block{Kind: 99, Key: "a strange key"}}
	strangeEffect = api.Effect{Kind: 99, Key: "a strange key", ID: 99}
	strangePair   = api.Pair{Key: "a strange key", Value: "strange"}
)

// roomy returns a copy of l with room behind it, in which x lies.
func roomy[T any](l []T, x T) []T {
	all := make([]T, len(l)+3)
	for i := copy(all, l); i < len(all); i++ {
		all[i] = x
	}
	return all[:len(l)]
}

// fill writes x over l and over the room behind it.
func fill[T any](l []T, x T) {
	l = l[:cap(l)]
	for i := range l {
		l[i] = x
	}
}

// fillRooms writes over all lists.
func fillRooms(r api.Rooms) {
	for _, l := range [][]api.Taken{r.Taken, r.Live, r.Limbo, r.Antis, r.Private} {
		fill(l, strangeTaken)
	}
}

// sameRooms reports whether two are the same, a nil list being an empty one.
func sameRooms(a, b api.Rooms) bool {
	return slices.Equal(a.Taken, b.Taken) && slices.Equal(a.Live, b.Live) && slices.Equal(a.Limbo, b.Limbo) && slices.Equal(a.Antis, b.Antis) && slices.Equal(a.Private, b.Private)
}

// sameShelf reports whether two are the same, a nil list being an empty one.
func sameShelf(a, b api.Shelf) bool {
	return slices.Equal(a.Pairs, b.Pairs) && slices.Equal(a.Queue, b.Queue)
}

// tell writes a change, or several, for a message: of long texts the beginning.
func tell(l ...api.Change) string {
	var text strings.Builder
	for i, c := range l {
		if i == 4 {
			fmt.Fprintf(&text, "and %d more", len(l)-i)
			break
		}
		fmt.Fprintf(&text, "{%d %.20q %.20q %v %v %d %d}", c.Kind, c.Key, c.Value, c.Had, c.Old, c.Line, c.Class)
	}
	return text.String()
}

// pair is a store and the model, called alike. While it is quiet, they are not held against each other.
type pair struct {
	t     *testing.T
	a     *Arena
	m     *model
	quiet bool
}

// newPair returns an empty store and its model, having asked that they are the same.
func newPair(t *testing.T, lines, threads int) *pair {
	t.Helper()
	a, e := New(lines, threads)
	if a == nil || e != api.OK {
		t.Fatalf("New(%d, %d): %v, %d", lines, threads, a, e)
	}
	x := &pair{t: t, a: a, m: newModel(lines, threads)}
	x.same("a new store")
	return x
}

// private returns the blocks that are allocated and nothing else, the last one first, and, if some is true, some that are not.
func (x *pair) private(some bool) []api.Taken {
	var l []api.Taken
	for line := x.m.lines - 1; line > 0; line-- {
		c, taken := x.m.class[line]
		if !taken || x.m.isUsed(line) {
			continue
		}
		l = append(l, api.Taken{Line: line, Class: c})
		if some {
			l = append(l, api.Taken{Line: 300 - line, Class: c - 9}, api.Taken{Line: line, Class: c - 1})
		}
	}
	return l
}

// differs ends the test: what was asked is not as it must be.
func (x *pair) differs(when, what string, got, want any) {
	x.t.Helper()
	x.t.Fatalf("%s: %s: %.600v, want %.600v", when, what, got, want)
}

// list fails the test if what was asked is not this list.
func list[T comparable](x *pair, when, what string, got, want []T) {
	x.t.Helper()
	if !slices.Equal(got, want) {
		x.differs(when, what, got, want)
	}
}

// same fails the test if the store is not as the model says, in all that can be asked of it. What is asked is written over, so that no later answer may come of it.
func (x *pair) same(when string) {
	x.t.Helper()
	if x.quiet {
		return
	}
	x.sameComponents(when)
	x.sameClocks(when)
	x.sameDevice(when)
	s, wantS := x.a.Shelf(), x.m.shelf()
	if !sameShelf(s, wantS) {
		x.differs(when, "Shelf", s, wantS)
	}
	fill(s.Pairs, strangePair)
	fill(s.Queue, "a strange text")
	l := x.a.Effects()
	list(x, when, "Effects", l, x.m.effects)
	fill(l, strangeEffect)
	private := roomy(x.private(len(x.m.effects)%2 == 0), strangeTaken)
	was := slices.Clone(private[:cap(private)])
	r, wantR := x.a.Rooms(private), x.m.rooms(private)
	if !sameRooms(r, wantR) {
		x.differs(when, "Rooms", r, wantR)
	}
	fillRooms(r)
	list(x, when, "what was handed to Rooms", private[:cap(private)], was)
}

func (x *pair) sameComponents(when string) {
	x.t.Helper()
	links := x.m.links()
	list(x, when, "the table", x.a.Table().All(), links)
	list(x, when, "the order", x.a.Order().All(), links)
	list(x, when, "the line", x.a.Line().All(), x.m.waiting())
	list(x, when, "the bag", x.a.Bag().All(), x.m.bag)
	list(x, when, "the pool", x.a.Pool().Taken(), x.m.rooms(nil).Taken)
	id, ver := x.a.Numbers()
	list(x, when, "Numbers", []uint64{id, ver}, []uint64{x.m.id, x.m.ver})
}

func (x *pair) sameClocks(when string) {
	x.t.Helper()
	owed, inside := make([]int, x.m.threads), map[int]uint64{}
	for t := range owed {
		owed[t] = x.m.owed[t]
		if e, ok := x.a.Readers().Inside(t); ok {
			inside[t] = e
		}
	}
	if !maps.Equal(inside, x.m.inside) {
		x.differs(when, "who is inside", inside, x.m.inside)
	}
	list(x, when, "what is owed", x.a.Clock().Owed(), owed)
	epochs := []uint64{x.a.Clock().Now(), x.a.Clock().Durable(), x.a.Readers().Now()}
	list(x, when, "the epochs", epochs, []uint64{x.m.now, x.m.durable, x.m.epoch})
}

func (x *pair) sameDevice(when string) {
	x.t.Helper()
	for line := range x.m.lines {
		if got, _ := x.a.Dev().Load(line); string(got) != string(x.m.bytes(line, 1)) {
			x.differs(when, fmt.Sprintf("line %d", line), got, x.m.bytes(line, 1))
		}
	}
	if got := x.a.Dev().Counts().Stores; got != x.m.stores {
		x.differs(when, "the number of stores", got, x.m.stores)
	}
}

// take allocates a block.
func (x *pair) take(c int) int {
	x.t.Helper()
	line, e := x.a.Pool().Take(c)
	if e != api.OK {
		x.t.Fatalf("Take(%d): %d", c, e)
	}
	x.m.class[line] = c
	return line
}

// give frees a block that is nothing else's.
func (x *pair) give(line int) {
	x.t.Helper()
	if e := x.a.Pool().Give(line); e != api.OK {
		x.t.Fatalf("Give(%d): %d", line, e)
	}
	delete(x.m.class, line)
}

// store stores a line, in the store and in the model.
func (x *pair) store(line int, b []byte) {
	x.t.Helper()
	if e := x.a.Dev().Store(line, 0, b); e != api.OK {
		x.t.Fatalf("Store(%d): %d", line, e)
	}
	x.m.store(line, b)
}

// draft writes what a call writes ahead of its publish: the head of a draft, and the further lines.
func (x *pair) draft(c api.Change) {
	x.t.Helper()
	b, _ := writes(c, 1)
	x.store(c.Line, block.Draft(c.Class))
	lines, _ := block.Encode(b)
	for at := 64; at < len(lines); at += 64 {
		x.store(c.Line+at/64, lines[at:at+64])
	}
}

// need returns the class that so many bytes need.
func need(n int) int {
	return sort.Search(3, func(c int) bool { return 28+63*(1<<c-1) >= n })
}

// change returns a change with what the indexes say now, with a block that has been written for it.
func (x *pair) change(kind int, key, value string) api.Change {
	x.t.Helper()
	c := api.Change{Kind: kind, Key: key, Value: value, Line: -1}
	switch kind {
	case api.CallPut:
		c.Old, c.Had = x.m.find(key)
		c.Class = need(len(key) + len(value))
	case api.CallDel:
		c.Old, c.Had = x.m.find(key)
	case api.CallEnq:
		c.Class = need(len(value))
	case api.CallDeq:
		c.Old, c.Had = x.m.head()
	}
	if _, needs := writes(c, 1); needs {
		c.Line = x.take(c.Class)
		x.draft(c)
	}
	return c
}

// publish publishes, and fails the test if the answer or the store behind it is not as the model says.
func (x *pair) publish(t int, e uint64, l ...api.Change) ([]bool, api.Errno) {
	x.t.Helper()
	hand := roomy(l, strangeChange)
	was := slices.Clone(hand[:cap(hand)])
	hits, code := x.a.Publish(t, e, hand)
	wantHits, want := x.m.publish(t, e, l)
	if !slices.Equal(hits, wantHits) || code != want {
		x.t.Fatalf("Publish(%d, %d, %s) = %v, %d, want %v, %d", t, e, tell(l...), hits, code, wantHits, want)
	}
	if !slices.Equal(hand[:cap(hand)], was) {
		x.t.Fatalf("Publish(%d, %d, %s) changed what was handed in to %s", t, e, tell(l...), tell(hand...))
	}
	fill(hand, strangeChange)
	fill(hits, true)
	x.same(fmt.Sprintf("behind a Publish of %d changes", len(l)))
	return wantHits, code
}

// does publishes one change that is made of what there is, and fails the test if it is refused.
func (x *pair) does(kind int, key, value string) api.Change {
	x.t.Helper()
	c := x.change(kind, key, value)
	if _, e := x.publish(0, x.m.now, c); e != api.OK {
		x.t.Fatalf("%s: %d", tell(c), e)
	}
	return c
}

func (x *pair) put(key, value string) api.Change {
	x.t.Helper()
	return x.does(api.CallPut, key, value)
}
func (x *pair) del(key string) api.Change   { x.t.Helper(); return x.does(api.CallDel, key, "") }
func (x *pair) enq(value string) api.Change { x.t.Helper(); return x.does(api.CallEnq, "", value) }
func (x *pair) deq() api.Change             { x.t.Helper(); return x.does(api.CallDeq, "", "") }

// release releases, and fails the test if the answer or the store behind it is not as the model says.
func (x *pair) release() (api.Entry, api.Errno) {
	x.t.Helper()
	got, code := x.a.Release()
	want, e := x.m.release()
	if got != want || code != e {
		x.t.Fatalf("Release = %v, %d, want %v, %d", got, code, want, e)
	}
	x.same(fmt.Sprintf("Release of %v", got))
	return got, code
}

func (x *pair) enter(t int) {
	if _, e := x.a.Readers().Enter(t); e == api.OK {
		x.m.inside[t] = x.m.epoch
	}
}

func (x *pair) leave(t int) {
	x.a.Readers().Leave(t)
	delete(x.m.inside, t)
}

func (x *pair) advance() { x.m.epoch = x.a.Readers().Advance() }

// begin starts to close the epoch, if none is being closed, and returns the lines that were noted in it.
func (x *pair) begin() []int {
	x.t.Helper()
	if x.a.Clock().Begin() != api.OK {
		return nil
	}
	var lines []int
	for line := range x.m.noted {
		lines = append(lines, line)
	}
	sort.Ints(lines)
	if left := x.a.Clock().Left(); !slices.Equal(left, lines) {
		x.t.Fatalf("the lines of epoch %d are %v, want %v", x.m.now, left, lines)
	}
	x.m.now++
	clear(x.m.owed)
	clear(x.m.noted)
	return lines
}

// step takes a step of closing an epoch, if one is being closed, and reports whether one was.
func (x *pair) step() bool {
	closing, ok := x.a.Clock().Closing()
	if act, _ := x.a.Clock().Step(x.a.Dev()); act == api.ActStore {
		x.m.store(1, geom.Clock(closing))
	}
	x.m.durable = x.a.Clock().Durable()
	return ok
}

// close closes the epoch that is being closed, or else the one of now, and returns the lines that were noted in that.
func (x *pair) close() []int {
	x.t.Helper()
	lines := x.begin()
	for x.step() {
	}
	return lines
}

// releaseAll lets everything out of limbo with as many epochs as it takes.
func (x *pair) releaseAll() {
	x.t.Helper()
	for range 3 {
		x.close()
		x.advance()
		for x.a.Bag().Len() > 0 {
			if _, e := x.release(); e != api.OK {
				break
			}
		}
	}
	if x.a.Bag().Len() > 0 {
		x.t.Fatalf("in limbo there is still %v", x.a.Bag().All())
	}
}

// found returns the linked blocks as a revival finds them, by rising lines.
func (m *model) found() []api.Found {
	var l []api.Found
	for line, b := range m.live {
		l = append(l, api.Found{Line: line, Good: true, B: b})
	}
	slices.SortFunc(l, func(a, b api.Found) int { return cmp.Compare(a.Line, b.Line) })
	return l
}

// dice are numbers that look random and are the same in every run.
type dice uint32

func (d *dice) upTo(n int) int {
	*d = *d*1664525 + 1013904223
	return int(uint32(*d)>>8) % n
}

// key returns one of a few keys.
func (d *dice) key() string {
	return []string{"a", "b", "c", "d\x00", "\xff", longKey, "e", "f"}[d.upTo(8)]
}

// value returns a value, most often a short one.
func (d *dice) value() string {
	n := []int{0, 3, 12, 27, 28, 60, 100, 217, 400}[min(d.upTo(9), d.upTo(9))]
	return strings.Repeat(string(rune('a'+d.upTo(26))), n)
}

// some returns up to three changes that are made of what there is, as far as there is room for them.
func (x *pair) some(d *dice) []api.Change {
	x.t.Helper()
	var l []api.Change
	for range 1 + min(d.upTo(3), d.upTo(3)) {
		kind := 2 + d.upTo(4)
		if !x.a.Pool().Room(3) && !x.a.Pool().Room(0) {
			kind = api.CallDel
		}
		value := d.value()
		if !x.a.Pool().Room(need(len(value) + 16)) {
			value = ""
		}
		if x.a.Pool().Room(0) && x.a.Pool().Room(need(len(value)+16)) {
			l = append(l, x.change(kind, d.key(), value))
		}
	}
	return l
}

// spoil makes something of the changes another thing, which may be wrong.
func (d *dice) spoil(l []api.Change) []api.Change {
	if len(l) == 0 {
		return []api.Change{{Kind: d.upTo(8), Key: d.key(), Line: d.upTo(40)}}
	}
	c := &l[d.upTo(len(l))]
	switch d.upTo(14) {
	case 0:
		c.Kind = d.upTo(8)
	case 1:
		c.Key = d.key()
	case 2:
		c.Value = d.value()
	case 3:
		c.Had = !c.Had
	case 4:
		c.Line = d.upTo(40)
	case 5:
		c.Class = d.upTo(5) - 1
	case 6:
		c.Old.Ver += uint64(d.upTo(3)) - 1
	case 7:
		c.Old.Line = c.Line
	case 8:
		l = append(l, l[0])
	case 9:
		c.Line = l[0].Line
	case 10:
		l = l[:len(l)-1]
	case 11:
		c.Old = api.Link{}
	case 12, 13:
		c.Value = overValue
	}
	return l
}

// turn makes one call of the pair.
func (x *pair) turn(d *dice) (api.Errno, bool) {
	x.t.Helper()
	switch d.upTo(12) {
	case 0, 1, 2, 3, 4:
		l := x.some(d)
		if d.upTo(3) == 0 {
			l = d.spoil(l)
		}
		thread, e := d.upTo(x.m.threads), x.m.now
		if d.upTo(30) == 0 {
			thread, e = d.upTo(6)-1, e+uint64(d.upTo(3))-1
		}
		_, code := x.publish(thread, e, l...)
		// What was not published is given back most often, and else it stays somebody's.
		for _, p := range x.private(false) {
			if d.upTo(5) > 0 {
				x.give(p.Line)
			}
		}
		return code, true
	case 5:
		x.enter(d.upTo(x.m.threads))
	case 6, 7:
		x.leave(d.upTo(x.m.threads))
	case 8:
		x.advance()
	case 9:
		if d.upTo(3) == 0 {
			x.begin()
		}
	case 10:
		for range d.upTo(20) {
			x.step()
		}
	case 11:
		for range d.upTo(4) {
			x.release()
		}
	}
	x.same("a call")
	return 0, false
}

// Long rows of calls, wrong ones among them, on devices of one slab and of several, with stores that begin empty, with blocks, and near the end of the numbers.
func TestP16_AgainstModel(t *testing.T) {
	told := map[api.Errno]int{}
	for seed := range 60 {
		d := dice(seed)
		lines := []int{10, 18, 34, 50}[seed%4]
		x := newPair(t, lines, 1+seed%4)
		if seed%5 == 4 {
			x = over(t, 34, 1+seed%4, uint64(seed), found(2, 1, 7, 9, "a", "1"), found(3, 2, 5, 9, "", "q"), found(10, 1, 8, 10, longKey, strings.Repeat("k", 70)), found(4, 2, 6, 2, "", "r"))
		}
		if seed%6 == 5 {
			x.setNumbers(1<<61-6, 1<<61-15)
		}
		for range 150 {
			if code, published := x.turn(&d); published {
				told[code]++
			}
		}
	}
	for code, least := range map[api.Errno]int{api.OK: 1000, api.ErrArg: 100, api.ErrRetry: 100, api.ErrForm: 20, api.ErrEnd: 20} {
		if told[code] < least {
			t.Errorf("%d publishes returned %d, want %d at least", told[code], code, least)
		}
	}
}

// The same calls are answered alike, by two stores and in two runs.
func TestR5_TheSameAgain(t *testing.T) {
	for seed := range 8 {
		var stores []*Arena
		for range 3 {
			d := dice(500 + seed)
			x := newPair(t, 34, 2)
			x.quiet = true
			for range 120 {
				x.turn(&d)
			}
			stores = append(stores, x.a)
		}
		first := stores[0]
		for _, a := range stores[1:] {
			id, ver := a.Numbers()
			wantID, wantVer := first.Numbers()
			if id != wantID || ver != wantVer || !sameShelf(a.Shelf(), first.Shelf()) || !sameRooms(a.Rooms(nil), first.Rooms(nil)) || !slices.Equal(a.Effects(), first.Effects()) || !slices.Equal(a.Bag().All(), first.Bag().All()) {
				t.Errorf("seed %d: %v, and first it was %v", seed, a.Shelf(), first.Shelf())
			}
		}
	}
}
