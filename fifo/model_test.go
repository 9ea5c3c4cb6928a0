package fifo

import (
	"fmt"
	"slices"
	"strings"
	"testing"

	"fusee/api"
)

// model is the chapter's words: one list of links, pushed at the end, taken off at the front.
type model struct {
	list []api.Link
}

func (m *model) push(x api.Link) { m.list = append(m.list, x) }

func (m *model) head() (api.Link, bool) {
	if len(m.list) == 0 {
		return api.Link{}, false
	}
	return m.list[0], true
}

func (m *model) pop() (api.Link, bool) {
	x, ok := m.head()
	if ok {
		m.list = slices.Clone(m.list[1:])
	}
	return x, ok
}

// tell writes links for a message: keys are quoted and cut short, and of many links the first ones stand for all.
func tell(all ...api.Link) string {
	var text []string
	for i, x := range all {
		if i == 10 {
			text = append(text, fmt.Sprintf("and %d more", len(all)-i))
			break
		}
		text = append(text, fmt.Sprintf("(%.24q %d %d %d %d)", x.Key, x.ID, x.Ver, x.Line, x.Class))
	}
	return strings.Join(text, " ")
}

// differ names the place from which on two lists of links are not the same.
func differ(got, want []api.Link) string {
	for i := range min(len(got), len(want)) {
		if got[i] != want[i] {
			return fmt.Sprintf("at %d %s, want %s", i, tell(got[i]), tell(want[i]))
		}
	}
	return fmt.Sprintf("%d links, want %d", len(got), len(want))
}

// both is a line and the model, called alike.
type both struct {
	t *testing.T
	l *Line
	m *model
}

// newBoth returns an empty line with its model, having asked that they are the same.
func newBoth(t *testing.T) *both {
	t.Helper()
	b := &both{t, New(), &model{}}
	b.same()
	return b
}

// bothOf returns a line of these links with its model.
func bothOf(t *testing.T, all ...api.Link) *both {
	t.Helper()
	b := newBoth(t)
	b.push(all...)
	return b
}

// push pushes the links one by one.
func (b *both) push(all ...api.Link) {
	b.t.Helper()
	for _, x := range all {
		b.l.Push(x)
		b.m.push(x)
	}
}

// pop asks Head first: Pop must return the same.
func (b *both) pop() (api.Link, bool) {
	b.t.Helper()
	seen, some := b.l.Head()
	x, ok := b.l.Pop()
	if x != seen || ok != some {
		b.t.Fatalf("Pop = %s, %v, and Head had been %s, %v", tell(x), ok, tell(seen), some)
	}
	if want, wanted := b.m.pop(); x != want || ok != wanted {
		b.t.Fatalf("Pop = %s, %v, want %s, %v", tell(x), ok, tell(want), wanted)
	}
	return x, ok
}

// popAll pops until there is nothing left, and once more, asking for all each time.
func (b *both) popAll() {
	b.t.Helper()
	for ok := true; ok; {
		_, ok = b.pop()
		b.same()
	}
}

// same fails the test if the line is not as the model says, in all that can be asked of it, or if it is another one behind that.
func (b *both) same() {
	b.t.Helper()
	for range 2 {
		if all := b.l.All(); !slices.Equal(all, b.m.list) {
			b.t.Fatalf("All: %s", differ(all, b.m.list))
		}
		if n := b.l.Len(); n != len(b.m.list) {
			b.t.Fatalf("Len is %d, want %d", n, len(b.m.list))
		}
		x, ok := b.l.Head()
		if want, wanted := b.m.head(); x != want || ok != wanted {
			b.t.Fatalf("Head = %s, %v, want %s, %v", tell(x), ok, tell(want), wanted)
		}
	}
}

// Every row of up to twelve calls of Push and Pop.
func TestP14_EveryShortRow(t *testing.T) {
	for length := 1; length <= 12; length++ {
		for row := range 1 << length {
			b := newBoth(t)
			for i := range length {
				if row>>i&1 == 0 {
					b.push(link(i))
				} else {
					b.pop()
				}
			}
			// Each row is the beginning of longer ones, so that it is enough to ask at its end.
			b.same()
		}
	}
}

// dice are numbers that look random and are the same in every run.
type dice uint32

func (d *dice) upTo(n int) int {
	*d = *d*1664525 + 1013904223
	// The upper bits, since the lower ones come again soon.
	return int(uint64(*d) * uint64(n) >> 32)
}

// link returns a link of few, so that there are links that are equal, and some that are zero.
func (d *dice) link() api.Link {
	if d.upTo(20) == 0 {
		return api.Link{}
	}
	x := link(d.upTo(9))
	if d.upTo(2) == 0 {
		// What waits in a queue has no key.
		x.Key = ""
	}
	return x
}

// Long rows of calls, with lists that stay short, that grow, and that are emptied time after time.
func TestP14_AgainstModel(t *testing.T) {
	empty, most := 0, 0
	for seed := range 80 {
		d := dice(seed)
		b := newBoth(t)
		for i := range 600 {
			// Of a hundred calls so many are Push, and in every third row that changes on the way.
			pushes := 35 + seed%5*8
			if seed%3 == 0 {
				pushes = 20 + i/100%2*60
			}
			if d.upTo(100) < pushes {
				b.push(d.link())
			} else if _, ok := b.pop(); !ok {
				empty++
			}
			most = max(most, b.l.Len())
			b.same()
		}
		b.popAll()
	}
	if empty < 1000 || most < 100 {
		t.Errorf("Pop found an empty list %d times only, or there were never more than %d links", empty, most)
	}
}

// Many links at once, more than a device has blocks: the list fills up, is emptied half, fills up further, and is emptied.
func TestP14_ManyLinks(t *testing.T) {
	b := newBoth(t)
	for i := range 3000 {
		b.push(link(i))
		if i%3 == 2 {
			b.pop()
		}
		if i%97 == 0 {
			b.same()
		}
	}
	b.same()
	for range 1500 {
		b.pop()
	}
	b.same()
	for i := range 4000 {
		b.push(link(5000 + i))
	}
	b.same()
	for b.l.Len() > 3 {
		b.pop()
	}
	b.popAll()
}
