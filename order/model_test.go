package order

import (
	"fmt"
	"hash/crc32"
	"math/bits"
	"slices"
	"strings"
	"testing"

	"fusee/api"
)

// levelOf is the level of a key, by chapter 11's words.
func levelOf(key string) int {
	return min(4, 1+bits.LeadingZeros32(^crc32.ChecksumIEEE([]byte(key))))
}

// model is the chapter's order, written another way: one list of links in ascending order of their keys, each with the level of its key.
type model struct {
	list   []api.Link
	levels []int
}

// place returns how many keys are below this one, and whether the next one is this one.
func (m *model) place(key string) (int, bool) {
	at := 0
	for at < len(m.list) && m.list[at].Key < key {
		at++
	}
	return at, at < len(m.list) && m.list[at].Key == key
}

func (m *model) set(l api.Link) bool {
	at, is := m.place(l.Key)
	if is {
		m.list[at] = l
		return true
	}
	m.list = slices.Insert(m.list, at, l)
	m.levels = slices.Insert(m.levels, at, levelOf(l.Key))
	return false
}

func (m *model) drop(key string) bool {
	at, is := m.place(key)
	if is {
		m.list = slices.Delete(m.list, at, at+1)
		m.levels = slices.Delete(m.levels, at, at+1)
	}
	return is
}

func (m *model) right(level int, pos string, past bool) (api.Link, bool) {
	for i, l := range m.list {
		if level >= 1 && level <= m.levels[i] && (!past || l.Key > pos) {
			return l, true
		}
	}
	return api.Link{}, false
}

// has reports whether this very link is in the list.
func (m *model) has(l api.Link) bool {
	at, is := m.place(l.Key)
	return is && m.list[at] == l
}

// tell writes links for a message: keys are quoted and cut short, and of many links the first ones stand for all.
func tell(all ...api.Link) string {
	var text []string
	for i, l := range all {
		if i == 10 {
			text = append(text, fmt.Sprintf("and %d more", len(all)-i))
			break
		}
		text = append(text, fmt.Sprintf("(%.24q %d %d %d %d)", l.Key, l.ID, l.Ver, l.Line, l.Class))
	}
	return strings.Join(text, " ")
}

// differ names the place from which on two lists of links are not the same.
func differ(got, want []api.Link) string {
	for i := range min(len(got), len(want)) {
		if got[i] != want[i] {
			return fmt.Sprintf("at %d %s, want %s", i, tell(got[i]), tell(want[i]))
		}
	}
	return fmt.Sprintf("%d links, want %d", len(got), len(want))
}

// both is an order and the model, called alike.
type both struct {
	t *testing.T
	o *Order
	m *model
}

// newBoth returns an empty order with its model, having asked that they are the same.
func newBoth(t *testing.T) *both {
	t.Helper()
	b := &both{t, New(), &model{}}
	b.same()
	return b
}

// bothOf returns an order of these links with its model.
func bothOf(t *testing.T, all ...api.Link) *both {
	t.Helper()
	b := newBoth(t)
	for _, l := range all {
		b.set(l)
	}
	return b
}

func (b *both) set(l api.Link) {
	b.t.Helper()
	if got, want := b.o.Set(l), b.m.set(l); got != want {
		b.t.Fatalf("Set(%s) = %v, want %v", tell(l), got, want)
	}
}

func (b *both) drop(key string) {
	b.t.Helper()
	if got, want := b.o.Drop(key), b.m.drop(key); got != want {
		b.t.Fatalf("Drop(%.24q) = %v, want %v", key, got, want)
	}
}

// right asks both what is on the level behind pos and returns it.
func (b *both) right(level int, pos string, past bool) (api.Link, bool) {
	b.t.Helper()
	l, ok := b.o.Right(level, pos, past)
	if want, is := b.m.right(level, pos, past); l != want || ok != is {
		b.t.Fatalf("Right(%d, %.24q, %v) = %s, %v, want %s, %v", level, pos, past, tell(l), ok, tell(want), is)
	}
	return l, ok
}

// same fails the test if the links are not those of the model.
func (b *both) same() {
	b.t.Helper()
	if all := b.o.All(); !slices.Equal(all, b.m.list) {
		b.t.Fatalf("All: %s", differ(all, b.m.list))
	}
	if n := b.o.Len(); n != len(b.m.list) {
		b.t.Fatalf("Len is %d, want %d", n, len(b.m.list))
	}
}

// sameAt asks for each position on each level, and on those that are next to the levels, and holds the answers against each other as P13.3 says.
func (b *both) sameAt(positions ...string) {
	b.t.Helper()
	for _, pos := range positions {
		for _, past := range []bool{false, true} {
			below, some := api.Link{}, true
			for level := -1; level <= 6; level++ {
				l, ok := b.right(level, pos, past)
				if level > 1 && ok && (!some || l.Key < below.Key) {
					b.t.Fatalf("Right(%d, %.24q, %v) is %s, and %s, %v on the level below", level, pos, past, tell(l), tell(below), some)
				}
				below, some = l, ok
			}
		}
	}
}

// along goes along each level, from key to key, and returns how many links it reached on all of them.
func (b *both) along() int {
	b.t.Helper()
	reached := 0
	for level := 1; level <= 4; level++ {
		l, ok := b.right(level, "", false)
		for ok {
			reached++
			l, ok = b.right(level, l.Key, true)
		}
	}
	return reached
}

// whole asks for all that can be asked of an order.
func (b *both) whole() {
	b.t.Helper()
	b.same()
	b.along()
	b.sameAt("", "\xff\xff\xff\xff\xff")
	for _, l := range b.m.list {
		b.sameAt(l.Key, l.Key+"\x00")
	}
}

// Every row of up to five calls, of the empty key and three more, of different levels, each the beginning of another one.
func TestP13_EveryShortRow(t *testing.T) {
	high := longer("", 4)
	keys := []string{"", high, longer(high, 2), longer(longer(high, 2), 3)}
	calls := 2 * len(keys)
	rows := 1
	for length := 1; length <= 5; length++ {
		rows *= calls
		for row := range rows {
			b := newBoth(t)
			for i := range length {
				if call := row % calls; call < len(keys) {
					b.set(link(keys[call], i))
				} else {
					b.drop(keys[call-len(keys)])
				}
				row /= calls
			}
			// Each row is the beginning of longer ones, so that it is enough to ask at its end.
			b.same()
			b.sameAt(keys...)
		}
	}
}

// dice are numbers that look random and are the same in every run.
type dice uint32

func (d *dice) upTo(n int) int {
	*d = *d*1664525 + 1013904223
	// The upper bits, since the lower ones come again soon.
	return int(uint64(*d) * uint64(n) >> 32)
}

// one returns one of the keys.
func (d *dice) one(keys []string) string { return keys[d.upTo(len(keys))] }

// some returns n keys, of no byte to four that are taken from few: many of them are the beginning of one another.
func (d *dice) some(n int) []string {
	const from = "\x00\x01ak\x7f\x80\xc3\xff"
	keys := []string{""}
	for len(keys) < n {
		key := ""
		for range 1 + d.upTo(4) {
			at := d.upTo(len(from))
			key += from[at : at+1]
		}
		if !slices.Contains(keys, key) {
			keys = append(keys, key)
		}
	}
	return keys
}

// Long rows of calls, with few keys and with many, of all levels and of one, with orders that stay small and with orders that are nearly full.
func TestP13_AgainstModel(t *testing.T) {
	there, not := 0, 0
	for seed := range 60 {
		d := dice(seed)
		keys := d.some(6 + seed%4*12)
		if seed%5 == 4 {
			keys = on(1+seed/5%4, len(keys))
		}
		b := newBoth(t)
		sets := 30 + seed%3*20
		for i := range 250 {
			key := d.one(keys)
			if _, is := b.m.place(key); is {
				there++
			} else {
				not++
			}
			if d.upTo(100) < sets {
				b.set(link(key, i))
			} else {
				b.drop(key)
			}
			b.same()
			b.sameAt(key, key+"\x00", d.one(keys))
			if i%10 == 0 {
				b.sameAt(keys...)
			}
		}
	}
	if there < 3000 || not < 3000 {
		t.Errorf("the keys of the calls were there %d times and not there %d times", there, not)
	}
}

// A device's worth of links, and more, set and dropped in one order.
func TestP13_ManyLinks(t *testing.T) {
	d := dice(99)
	keys := d.some(1200)
	b := newBoth(t)
	for i := range 20000 {
		// The order fills up, is emptied, and fills up again.
		if key := d.one(keys); d.upTo(10) < 2+i/5000%2*6 {
			b.drop(key)
		} else {
			b.set(link(key, i))
		}
		if i%500 == 0 {
			b.same()
			b.along()
			b.sameAt(keys[i%1000 : i%1000+100]...)
		}
	}
}

// walk is a way along a level while links come and go; it keeps which keys were there the whole time, and how often each one was reached.
type walk struct {
	*both
	d       *dice
	keys    []string
	always  map[string]bool
	reached map[string]int
}

// change sets or drops a key, which may be the one that the walk is at.
func (w *walk) change(at string) {
	w.t.Helper()
	key := w.d.one(w.keys)
	if w.d.upTo(6) == 0 {
		key = at
	}
	if w.d.upTo(2) == 0 {
		w.set(link(key, w.d.upTo(1000)))
		return
	}
	w.drop(key)
	delete(w.always, key)
}

// through goes along the level, with up to so many changes behind each key.
func (w *walk) through(level, changes int) {
	w.t.Helper()
	w.always, w.reached = map[string]bool{}, map[string]int{}
	for i, l := range w.m.list {
		if w.m.levels[i] >= level {
			w.always[l.Key] = true
		}
	}
	pos, past := "", false
	for {
		l, ok := w.o.Right(level, pos, past)
		if !ok {
			break
		}
		if !w.m.has(l) || levelOf(l.Key) < level || past && l.Key <= pos {
			w.t.Fatalf("level %d: %s was reached behind %q", level, tell(l), pos)
		}
		w.reached[l.Key]++
		pos, past = l.Key, true
		for range w.d.upTo(changes + 1) {
			w.change(pos)
		}
	}
	for key := range w.always {
		if w.reached[key] != 1 {
			w.t.Fatalf("level %d: %q was there the whole time and was reached %d times", level, key, w.reached[key])
		}
	}
	for key, n := range w.reached {
		if n != 1 {
			w.t.Fatalf("level %d: %q was reached %d times", level, key, n)
		}
	}
}

func TestP13_3_Walks(t *testing.T) {
	stayed, came := 0, 0
	for seed := range 60 {
		d := dice(3000 + seed)
		w := &walk{both: newBoth(t), d: &d, keys: d.some(120)}
		for i, key := range w.keys {
			if i%3 > 0 {
				w.set(link(key, i))
			}
		}
		for round := range 24 {
			// Level 1, which contains all keys, every other time.
			w.through(1+round%2*(round/2%4), seed%4)
			for key := range w.reached {
				if w.always[key] {
					stayed++
				} else {
					came++
				}
			}
		}
		w.whole()
	}
	if stayed < 5000 || came < 500 {
		t.Errorf("%d keys stayed the whole time, %d others were reached", stayed, came)
	}
}
