package table

import (
	"slices"
	"testing"

	"fusee/api"
)

// model is the chapter's table, written another way: one list of links in ascending order of their keys.
type model struct {
	list []api.Link
}

// find returns where the key's link is, or -1.
func (m *model) find(key string) int {
	return slices.IndexFunc(m.list, func(l api.Link) bool { return l.Key == key })
}

func (m *model) set(l api.Link) bool {
	if at := m.find(l.Key); at >= 0 {
		m.list[at] = l
		return true
	}
	at := 0
	for at < len(m.list) && m.list[at].Key < l.Key {
		at++
	}
	m.list = slices.Insert(m.list, at, l)
	return false
}

func (m *model) get(key string) (api.Link, bool) {
	if at := m.find(key); at >= 0 {
		return m.list[at], true
	}
	return api.Link{}, false
}

func (m *model) drop(key string) (api.Link, bool) {
	l, ok := m.get(key)
	m.list = slices.DeleteFunc(m.list, func(l api.Link) bool { return l.Key == key })
	return l, ok
}

// next goes by the list's order: the first link of the bucket is the least one.
func (m *model) next(bucket int, pos string, past bool) (api.Link, bool) {
	for _, l := range m.list {
		if bucketOf(l.Key) == bucket && (!past || l.Key > pos) {
			return l, true
		}
	}
	return api.Link{}, false
}

// pair is a table and the model, called alike.
type pair struct {
	t    *testing.T
	x    *Table
	m    *model
	keys []string
}

// newPair returns an empty table with its model, having asked that they are the same; keys are those that it is going to be asked of.
func newPair(t *testing.T, keys []string) *pair {
	t.Helper()
	p := &pair{t, New(), &model{}, keys}
	p.same("a new table")
	return p
}

// same fails the test if the table is not as the model says, in all that can be asked of it.
func (p *pair) same(what string) {
	p.t.Helper()
	if all := p.x.All(); !slices.Equal(all, p.m.list) {
		p.t.Fatalf("%s: All is %s", what, first(all, p.m.list))
	}
	if n := p.x.Len(); n != len(p.m.list) {
		p.t.Fatalf("%s: Len is %d, want %d", what, n, len(p.m.list))
	}
	for _, key := range p.keys {
		p.sameAt(what, key)
	}
}

// sameAt asks for one key, and for what is behind it.
func (p *pair) sameAt(what, key string) {
	p.t.Helper()
	l, ok := p.x.Get(key)
	if want, wanted := p.m.get(key); l != want || ok != wanted {
		p.t.Fatalf("%s: Get(%q) = %s, %v, want %s, %v", what, key, tell(l), ok, tell(want), wanted)
	}
	for bucket := -1; bucket <= 8; bucket++ {
		for _, past := range []bool{false, true} {
			l, ok := p.x.Next(bucket, key, past)
			if want, wanted := p.m.next(bucket, key, past); l != want || ok != wanted {
				p.t.Fatalf("%s: Next(%d, %q, %v) = %s, %v, want %s, %v", what, bucket, key, past, tell(l), ok, tell(want), wanted)
			}
		}
	}
}

func (p *pair) set(l api.Link) {
	p.t.Helper()
	if got, want := p.x.Set(l), p.m.set(l); got != want {
		p.t.Fatalf("Set(%s) = %v, want %v", tell(l), got, want)
	}
}

func (p *pair) drop(key string) {
	p.t.Helper()
	l, ok := p.x.Drop(key)
	if want, wanted := p.m.drop(key); l != want || ok != wanted {
		p.t.Fatalf("Drop(%q) = %s, %v, want %s, %v", key, tell(l), ok, tell(want), wanted)
	}
}

// Every row of up to five calls, of two keys of bucket 0, the empty one among them, and two of another bucket, each the beginning of the other.
func TestP12_EveryShortRow(t *testing.T) {
	pairOf := func(start string) string {
		for _, key := range in(bucketOf(start), 2000) {
			if len(key) > len(start) && key[:len(start)] == start {
				return key
			}
		}
		t.Fatalf("no key begins with %q", start)
		return ""
	}
	keys := []string{"", pairOf(""), "\x25", pairOf("\x25")}
	const kinds = 8
	rows := 1
	for length := 1; length <= 5; length++ {
		rows *= kinds
		for row := range rows {
			p := newPair(t, keys)
			for i := range length {
				if kind := row % kinds; kind < 4 {
					p.set(link(keys[kind], i))
				} else {
					p.drop(keys[kind-4])
				}
				row /= kinds
			}
			// Each row is the beginning of longer ones, so that it is enough to ask at its end.
			p.same("the row")
		}
	}
}

// dice are numbers that look random and are the same in every run.
type dice uint32

func (d *dice) upTo(n int) int {
	*d = *d*1664525 + 1013904223
	// The upper bits, since the lower ones come again soon.
	return int(uint64(*d) * uint64(n) >> 32)
}

// one returns one of the keys.
func (d *dice) one(keys []string) string { return keys[d.upTo(len(keys))] }

// some returns n keys, of one to four bytes that are taken from few, and the empty one: many of them are the beginning of one another.
func (d *dice) some(n int) []string {
	const from = "\x00\x01ak\x7f\x80\xc3\xff"
	keys := []string{""}
	for len(keys) < n {
		key := make([]byte, 1+d.upTo(4))
		for i := range key {
			key[i] = from[d.upTo(len(from))]
		}
		if !slices.Contains(keys, string(key)) {
			keys = append(keys, string(key))
		}
	}
	return keys
}

// Long rows of calls, with few keys and with many, of all buckets and of one, with tables that stay small and with tables that are nearly full.
func TestP12_AgainstModel(t *testing.T) {
	hits, misses := 0, 0
	for seed := range 60 {
		d := dice(seed)
		keys := d.some(6 + seed%4*12)
		if seed%5 == 4 {
			keys = in(seed%8, len(keys))
		}
		p := newPair(t, keys)
		sets := 30 + seed%3*20
		for i := range 250 {
			key := d.one(keys)
			if p.m.find(key) >= 0 {
				hits++
			} else {
				misses++
			}
			if d.upTo(100) < sets {
				p.set(link(key, i))
			} else {
				p.drop(key)
			}
			p.same("a call")
		}
	}
	if hits < 3000 || misses < 3000 {
		t.Errorf("the keys of the calls were there %d times and not there %d times", hits, misses)
	}
}

// A device's worth of links, and more, set and dropped in one table.
func TestP12_ManyLinks(t *testing.T) {
	d := dice(99)
	keys := d.some(1200)
	p := newPair(t, keys[:3])
	for i := range 20000 {
		// The table fills up, is emptied, and fills up again.
		if key := d.one(keys); d.upTo(10) < 2+i/5000%2*6 {
			p.drop(key)
		} else {
			p.set(link(key, i))
		}
		if i%500 == 0 {
			p.keys = keys[i%1000 : i%1000+100]
			p.same("many calls")
		}
	}
}

// walk goes through all buckets as P12.3 says, and keeps of each key whether it was there the whole time.
type walk struct {
	*pair
	d       *dice
	always  map[string]bool
	reached map[string]int
}

// change sets or drops a key, which may be the one that the walk is at.
func (w *walk) change(at string) {
	w.t.Helper()
	key := w.d.one(w.keys)
	if w.d.upTo(6) == 0 {
		key = at
	}
	if w.d.upTo(2) == 0 {
		w.set(link(key, w.d.upTo(1000)))
		return
	}
	w.drop(key)
	delete(w.always, key)
}

// through goes from key to key of the bucket, with up to so many changes in between.
func (w *walk) through(bucket, changes int) {
	w.t.Helper()
	w.always, w.reached = map[string]bool{}, map[string]int{}
	for _, l := range w.m.list {
		if bucketOf(l.Key) == bucket {
			w.always[l.Key] = true
		}
	}
	pos, past := "", false
	for {
		l, ok := w.x.Next(bucket, pos, past)
		if !ok {
			break
		}
		if is, there := w.m.get(l.Key); is != l || !there || bucketOf(l.Key) != bucket || past && l.Key <= pos {
			w.t.Fatalf("bucket %d: %s was reached behind %q, and the link is %s, %v", bucket, tell(l), pos, tell(is), there)
		}
		w.reached[l.Key]++
		pos, past = l.Key, true
		for range w.d.upTo(changes + 1) {
			w.change(pos)
		}
	}
	for key := range w.always {
		if w.reached[key] != 1 {
			w.t.Fatalf("bucket %d: %q was there the whole time and was reached %d times", bucket, key, w.reached[key])
		}
	}
	for key, n := range w.reached {
		if n != 1 {
			w.t.Fatalf("bucket %d: %q was reached %d times", bucket, key, n)
		}
	}
}

func TestP12_3_Theorem(t *testing.T) {
	stayed, came := 0, 0
	for seed := range 60 {
		d := dice(3000 + seed)
		w := &walk{pair: newPair(t, d.some(120)), d: &d}
		for i, key := range w.keys {
			if i%3 > 0 {
				w.set(link(key, i))
			}
		}
		for round := range 40 {
			w.through(round%8, seed%4)
			for key := range w.reached {
				if w.always[key] {
					stayed++
				} else {
					came++
				}
			}
		}
		w.same("the walks")
	}
	if stayed < 5000 || came < 500 {
		t.Errorf("%d keys stayed the whole time, %d others were reached", stayed, came)
	}
}
