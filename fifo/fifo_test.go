package fifo

import (
	"fmt"
	"math"
	"slices"
	"strings"
	"sync"
	"testing"

	"fusee/api"
)

// link returns a link in which every field is n's own.
func link(n int) api.Link {
	return api.Link{Key: fmt.Sprint("key ", n), ID: uint64(10000 + n), Ver: uint64(20000 + n), Line: 2 + n, Class: n%3 + 1}
}

// links returns n links, those of the number from and the numbers behind it.
func links(from, n int) []api.Link {
	var all []api.Link
	for i := range n {
		all = append(all, link(from+i))
	}
	return all
}

// lineOf returns a list of these links.
func lineOf(all ...api.Link) *Line {
	l := New()
	for _, x := range all {
		l.Push(x)
	}
	return l
}

// holds fails the test if All, Len and Head do not tell these links, or tell others when they are asked again.
func holds(t *testing.T, l *Line, want ...api.Link) {
	t.Helper()
	for range 2 {
		if all := l.All(); !slices.Equal(all, want) {
			t.Errorf("All: %s", differ(all, want))
		}
		if n := l.Len(); n != len(want) {
			t.Errorf("Len is %d, want %d", n, len(want))
		}
		var first api.Link
		if len(want) > 0 {
			first = want[0]
		}
		if x, ok := l.Head(); x != first || ok != (len(want) > 0) {
			t.Errorf("Head = %s, %v, want %s", tell(x), ok, tell(first))
		}
	}
}

// pops fails the test if Pop does not return want, or leaves other links than these.
func pops(t *testing.T, l *Line, want api.Link, left ...api.Link) {
	t.Helper()
	if x, ok := l.Pop(); x != want || !ok {
		t.Errorf("Pop = %s, %v, want %s", tell(x), ok, tell(want))
	}
	holds(t, l, left...)
}

// none fails the test if Pop returns anything, once or twice, or if the list is not empty.
func none(t *testing.T, l *Line) {
	t.Helper()
	for range 2 {
		holds(t, l)
		if x, ok := l.Pop(); x != (api.Link{}) || ok {
			t.Errorf("Pop of an empty list = %s, %v", tell(x), ok)
		}
	}
	holds(t, l)
}

func TestExamples(t *testing.T) {
	a, b := link(1), link(2)
	l := New()
	l.Push(a)
	l.Push(b)
	if x, ok := l.Pop(); x != a || !ok {
		t.Errorf("Pop = %s, %v, want a", tell(x), ok)
	}
	if x, ok := l.Head(); x != b || !ok {
		t.Errorf("Head = %s, %v, want b", tell(x), ok)
	}
	if x, ok := l.Pop(); x != b || !ok {
		t.Errorf("Pop = %s, %v, want b", tell(x), ok)
	}
	if x, ok := l.Pop(); x != (api.Link{}) || ok {
		t.Errorf("Pop = %s, %v, want none", tell(x), ok)
	}
}

func TestP14_1_New(t *testing.T) {
	l := New()
	if l == nil {
		t.Fatal("no list")
	}
	none(t, l)
}

// Push on an empty list, on one that has links, on one from which some were taken, and on one from which all were taken.
func TestP14_1_Push(t *testing.T) {
	a, b, c, d, e := link(1), link(2), link(3), link(4), link(5)
	l := New()
	l.Push(a)
	holds(t, l, a)
	l.Push(b)
	holds(t, l, a, b)
	l.Push(c)
	holds(t, l, a, b, c)
	pops(t, l, a, b, c)
	l.Push(d)
	holds(t, l, b, c, d)
	pops(t, l, b, c, d)
	pops(t, l, c, d)
	pops(t, l, d)
	none(t, l)
	l.Push(e)
	holds(t, l, e)
	l.Push(a)
	holds(t, l, e, a)
	pops(t, l, e, a)
	pops(t, l, a)
	none(t, l)
}

// The same link is in the list as often as it was pushed, and Pop removes one of them.
func TestP14_1_SameLinkTwice(t *testing.T) {
	a, b := link(1), link(2)
	l := lineOf(a, a)
	holds(t, l, a, a)
	pops(t, l, a, a)
	l.Push(a)
	l.Push(b)
	l.Push(a)
	holds(t, l, a, a, b, a)
	pops(t, l, a, a, b, a)
	pops(t, l, a, b, a)
	pops(t, l, b, a)
	pops(t, l, a)
	none(t, l)
	same := bothOf(t, slices.Repeat([]api.Link{a}, 100)...)
	same.same()
	same.popAll()
}

// Links that differ in one field only are different ones, and none takes the place of another one.
func TestP14_1_NearlyTheSame(t *testing.T) {
	a := link(7)
	all := []api.Link{a, a, a, a, a, a}
	all[1].Key += "\x00"
	all[2].ID++
	all[3].Ver++
	all[4].Line++
	all[5].Class++
	b := bothOf(t, all...)
	b.same()
	b.push(all...)
	b.same()
	b.popAll()
}

// A link is kept whole, whatever its fields are: the list asks nothing of them.
func TestP14_1_Whole(t *testing.T) {
	numbers := []uint64{0, 1, 7, 1<<32 - 1, 1 << 61, 1<<61 + 1, math.MaxUint64}
	lines := []int{0, -1, 2, 257, 258, 4, math.MaxInt, math.MinInt}
	b := newBoth(t)
	for _, id := range numbers {
		for _, ver := range numbers {
			for _, n := range lines {
				one, other := api.Link{Key: "k", ID: id, Ver: ver, Line: n, Class: 3}, api.Link{ID: ver, Ver: id, Line: 3, Class: n}
				l := lineOf(one)
				holds(t, l, one)
				pops(t, l, one)
				none(t, l)
				b.push(one, other)
			}
		}
	}
	b.same()
	b.popAll()
}

// Nothing but the order in which the links came says which one is the first.
func TestP14_1_TheFirstCame(t *testing.T) {
	low := api.Link{Key: "a", ID: 1, Ver: 1, Line: 2}
	high := api.Link{Key: "z", ID: 9, Ver: 9, Line: 200, Class: 3}
	for _, all := range [][]api.Link{{low, high}, {high, low}, {high, low, high}, {low, high, low}, {high, high, low}, {low, low, high}} {
		b := bothOf(t, all...)
		b.same()
		b.popAll()
	}
	down := links(0, 50)
	slices.Reverse(down)
	b := bothOf(t, down...)
	b.same()
	b.push(links(0, 50)...)
	b.same()
	b.popAll()
}

// Head leaves the list as it is, however often it is asked.
func TestP14_1_HeadTwice(t *testing.T) {
	l := New()
	for range 3 {
		if x, ok := l.Head(); x != (api.Link{}) || ok {
			t.Errorf("Head of an empty list = %s, %v", tell(x), ok)
		}
	}
	for i := range 20 {
		l.Push(link(i))
		for range 3 {
			if x, ok := l.Head(); x != link(0) || !ok {
				t.Errorf("Head = %s, %v, want %s", tell(x), ok, tell(link(0)))
			}
		}
		holds(t, l, links(0, i+1)...)
	}
	for i := range 20 {
		for range 3 {
			if x, ok := l.Head(); x != link(i) || !ok {
				t.Errorf("Head = %s, %v, want %s", tell(x), ok, tell(link(i)))
			}
		}
		pops(t, l, link(i), links(i+1, 19-i)...)
	}
}

// Pop of an empty list changes nothing: what is pushed behind it is there, alone.
func TestP14_1_PopOfEmpty(t *testing.T) {
	for before := range 12 {
		l := lineOf(links(0, before)...)
		for i := range before {
			pops(t, l, link(i), links(i+1, before-i-1)...)
		}
		for range before + 3 {
			none(t, l)
		}
		all := links(50, before+1)
		for _, x := range all {
			l.Push(x)
		}
		holds(t, l, all...)
		for i, x := range all {
			pops(t, l, x, all[i+1:]...)
		}
		none(t, l)
	}
}

// Pop removes the first link and no other one, at every length.
func TestP14_1_PopIsHead(t *testing.T) {
	for n := 1; n <= 40; n++ {
		all := links(n, n)
		l := lineOf(all...)
		for i, want := range all {
			seen, some := l.Head()
			x, ok := l.Pop()
			if x != seen || ok != some || x != want || !ok {
				t.Fatalf("Pop = %s, %v, Head = %s, %v, want %s", tell(x), ok, tell(seen), some, tell(want))
			}
			holds(t, l, all[i+1:]...)
		}
		none(t, l)
	}
}

// All and Len behind each Push and each Pop of as many as a device may have blocks, and some more.
func TestP14_1_AllAndLen(t *testing.T) {
	b := newBoth(t)
	for i := range 300 {
		b.push(link(i))
		b.same()
	}
	b.popAll()
}

// A link that is zero is a link: it is told from none by the bool alone.
func TestP14_1_ZeroLink(t *testing.T) {
	var zero api.Link
	l := lineOf(zero)
	holds(t, l, zero)
	pops(t, l, zero)
	none(t, l)
	a := link(1)
	b := bothOf(t, zero, zero, a, zero, zero, a, a, zero)
	b.same()
	b.popAll()
	b.push(zero, a, zero)
	b.same()
	b.popAll()
	for n := range 40 {
		zeros := bothOf(t, make([]api.Link, n)...)
		zeros.same()
		zeros.popAll()
	}
}

// Keys of every kind, the empty one of a queue's links among them: none, text, no text, zeros, long ones.
func TestP14_1_Keys(t *testing.T) {
	keys := []string{"", "a", "\x00", "\x00\x00", "\xff", "\xff\xfe\x00\x80", "a\x00b", "é", "e\u0301", "日本", "\U0001f600", "\xed\xa0\x80", " ", "\n", "sixteen bytes ..", "seventeen bytes .", strings.Repeat("k", 400), strings.Repeat("\x80", 70000)}
	b := newBoth(t)
	for i, key := range keys {
		x := link(i)
		x.Key = key
		b.push(x, api.Link{Key: key})
		b.same()
	}
	b.push(api.Link{ID: 5, Ver: 6, Line: 7, Class: 2}, api.Link{ID: 5, Ver: 6, Line: 7, Class: 2})
	b.popAll()
}

// The list is full of every number of links, at every place where it may begin, and then one more comes.
func TestP14_1_FullThenOneMore(t *testing.T) {
	for gone := range 20 {
		for n := 1; n <= 40; n++ {
			b := bothOf(t, links(0, gone)...)
			for range gone {
				b.pop()
			}
			b.push(links(100, n)...)
			b.same()
			b.push(link(500))
			b.same()
			b.popAll()
		}
	}
}

// One link goes round and round, on a list that never had another one, and on one that had many.
func TestP14_1_OneLinkRound(t *testing.T) {
	for before := range 10 {
		l := lineOf(links(0, before)...)
		for range before {
			l.Pop()
		}
		x := link(99)
		for range 100 {
			l.Push(x)
			holds(t, l, x)
			pops(t, l, x)
		}
		none(t, l)
		// The one that is taken off is pushed again while it still is, or has just been, the head.
		l.Push(x)
		for range 100 {
			got, ok := l.Head()
			l.Push(got)
			holds(t, l, x, x)
			pops(t, l, x, x)
			if !ok {
				t.Fatal("Head found nothing")
			}
		}
	}
}

// A few links wait while many go through, at each number that waits, taken off ahead of each Push or behind it.
func TestP14_1_FewWaitManyGo(t *testing.T) {
	for waiting := 1; waiting <= 20; waiting++ {
		for _, ahead := range []bool{false, true} {
			b := bothOf(t, links(0, waiting)...)
			for i := range 8 * waiting {
				if ahead {
					b.pop()
				}
				b.push(link(waiting + i))
				b.same()
				if !ahead {
					b.pop()
					b.same()
				}
			}
			b.popAll()
		}
	}
}

// The list grows, again and again, while so many of the first ones have gone: the order stays.
func TestP14_1_GrowthAtEachBeginning(t *testing.T) {
	for n := 1; n <= 33; n++ {
		for gone := 0; gone <= n; gone++ {
			b := bothOf(t, links(0, n)...)
			for range gone {
				b.pop()
			}
			for i := range 70 {
				b.push(link(n + i))
				if i%7 == 0 || i < 5 {
					b.same()
				}
			}
			b.same()
			b.popAll()
		}
	}
}

// The list is filled and emptied, again and again, with more links each time and then with fewer.
func TestP14_1_EmptiedAndFilled(t *testing.T) {
	b := newBoth(t)
	for round := range 60 {
		n := min(round, 60-round)
		b.push(links(100*round, n)...)
		b.same()
		b.popAll()
	}
}

// Half a million links wait, and as many more go through: it ends in a time that their number explains.
func TestR1_ManyLinks(t *testing.T) {
	const n = 1 << 19
	l := New()
	for i := range 2 * n {
		l.Push(api.Link{Line: i})
		if i < n {
			continue
		}
		if x, ok := l.Pop(); x.Line != i-n || !ok || l.Len() != n {
			t.Fatalf("Pop = %s, %v, and Len is %d, want %d and %d", tell(x), ok, l.Len(), i-n, n)
		}
	}
	for i, x := range l.All() {
		if got, ok := l.Pop(); got != x || x.Line != n+i || !ok {
			t.Fatalf("Pop = %s, %v, All told %s, want %d", tell(got), ok, tell(x), n+i)
		}
	}
	none(t, l)
}

func TestR3_NoLine(t *testing.T) {
	var l *Line
	none(t, l)
	for i := range 3 {
		l.Push(link(i))
		l.Push(api.Link{})
		none(t, l)
	}
	if l != nil {
		t.Error("there is a list")
	}
}

// A list that New did not make: nothing is promised for it but an answer.
func TestR1_AnotherLine(t *testing.T) {
	l := &Line{}
	l.Head()
	l.Pop()
	l.All()
	l.Len()
	l.Push(link(1))
	l.Push(link(2))
	copied := *l
	for i := range 9 {
		l.Push(link(i))
		copied.Push(link(i))
		l.Pop()
		copied.Pop()
		copied.Pop()
		copied.All()
	}
}

// spoil writes over what All returned, and behind it.
func spoil(all []api.Link) {
	all = all[:cap(all)]
	for i := range all {
		all[i] = api.Link{Key: "junk", ID: 99, Ver: 99, Line: -9, Class: -9}
	}
	_ = append(all, link(9))
}

// What All returned may be written over and appended to: neither the list nor other answers change.
func TestR4_AnswersAreNewMemory(t *testing.T) {
	b := newBoth(t)
	turn := func() {
		t.Helper()
		one, other := b.l.All(), b.l.All()
		spoil(one)
		if !slices.Equal(other, b.m.list) {
			t.Errorf("another answer: %s", differ(other, b.m.list))
		}
		spoil(other)
		b.same()
	}
	turn()
	for i := range 40 {
		b.push(link(i))
		turn()
		if i%3 == 0 {
			b.pop()
			turn()
		}
		// What was written behind an answer must not come up where the next link is going to be.
		b.push(link(100+i), link(200+i))
		turn()
	}
	for b.l.Len() > 0 {
		b.pop()
		turn()
	}
	turn()
	b.push(link(7))
	turn()
}

// What All returned stays as it was, whatever is called later.
func TestR4_AnswersStay(t *testing.T) {
	b := newBoth(t)
	var got, want [][]api.Link
	ask := func() {
		got, want = append(got, b.l.All()), append(want, slices.Clone(b.m.list))
	}
	ask()
	for round := range 6 {
		for i := range 30 {
			b.push(link(100*round + i))
			ask()
			if i%4 == 3 {
				b.pop()
				ask()
			}
		}
		for range 10 + 4*round {
			b.pop()
			ask()
		}
	}
	b.popAll()
	b.push(links(900, 100)...)
	for i := range got {
		if !slices.Equal(got[i], want[i]) {
			t.Errorf("answer %d: %s", i, differ(got[i], want[i]))
		}
	}
}

// What was pushed is not changed, and the list has no share in it: it may be another one later.
func TestR4_ArgumentsStay(t *testing.T) {
	b := newBoth(t)
	x := link(1)
	b.push(x)
	x.Key, x.ID, x.Line = "another", 3, 9
	b.same()
	y, _ := b.l.Head()
	y.Ver, y.Class = 3, 0
	b.same()
	key := []byte("bytes")
	b.push(api.Link{Key: string(key)})
	key[0] = 'x'
	b.same()
	b.popAll()
}

// What is pushed into one list is not seen in another one.
func TestR5_TwoLines(t *testing.T) {
	one, other := newBoth(t), newBoth(t)
	d := dice(11)
	for i := range 400 {
		switch d.upTo(5) {
		case 0, 1:
			one.push(link(i))
		case 2:
			other.push(link(1000 + i))
		case 3:
			one.push(link(i))
			other.push(link(i))
		case 4:
			one.pop()
			if i%2 == 0 {
				other.pop()
			}
		}
		one.same()
		other.same()
	}
	one.popAll()
	other.same()
	one.push(link(1))
	other.popAll()
	one.same()
}

// The same calls are answered alike, by lists made anew, and by one that has been used before: of a list nothing can be asked but its links.
func TestR5_AskedAgain(t *testing.T) {
	used := lineOf(links(0, 77)...)
	for used.Len() > 0 {
		used.Pop()
	}
	for round := range 4 {
		fresh, d := New(), dice(round)
		for i := range 300 {
			if d.upTo(9) < 5 {
				fresh.Push(link(i))
				used.Push(link(i))
			} else {
				x, ok := fresh.Pop()
				if y, is := used.Pop(); x != y || ok != is {
					t.Fatalf("Pop = %s, %v and %s, %v", tell(x), ok, tell(y), is)
				}
			}
			holds(t, used, fresh.All()...)
		}
		for used.Len() > 0 {
			used.Pop()
		}
	}
}

// Lists of several goroutines do not disturb each other.
func TestR5_ManyGoroutines(t *testing.T) {
	var wait sync.WaitGroup
	for g := range 8 {
		wait.Go(func() {
			if what := fillAndEmpty(g); what != "" {
				t.Errorf("goroutine %d: %s", g, what)
			}
		})
	}
	wait.Wait()
}

// fillAndEmpty pushes links and pops them again, time after time, and returns what was wrong.
func fillAndEmpty(g int) string {
	l := New()
	for round := range 20 {
		for i := range 200 {
			l.Push(link(1000*g + i))
			if l.Len() != i+1 {
				return fmt.Sprintf("Len is %d in round %d, want %d", l.Len(), round, i+1)
			}
		}
		if all := l.All(); !slices.Equal(all, links(1000*g, 200)) {
			return "All: " + differ(all, links(1000*g, 200))
		}
		for i := range 200 {
			if x, ok := l.Pop(); x != link(1000*g+i) || !ok {
				return fmt.Sprintf("Pop = %s, %v in round %d, want %s", tell(x), ok, round, tell(link(1000*g+i)))
			}
		}
	}
	return ""
}
