package order

import (
	"fmt"
	"math"
	"slices"
	"strings"
	"sync"
	"testing"

	"fusee/api"
)

// link returns a link of the key, in which every field is n's own.
func link(key string, n int) api.Link {
	return api.Link{Key: key, ID: uint64(1000 + n), Ver: uint64(2000 + n), Line: 2 + n, Class: n % 4}
}

// links returns one link of each key.
func links(keys ...string) []api.Link {
	all := make([]api.Link, 0, len(keys))
	for i, key := range keys {
		all = append(all, link(key, i))
	}
	return all
}

// ascending returns the links in ascending order of their keys.
func ascending(all []api.Link) []api.Link {
	m := &model{}
	for _, l := range all {
		m.set(l)
	}
	return m.list
}

// on returns n keys that appear on this level and on none above it, in ascending order, none of them empty. They are numbers with a byte ahead of them.
func on(level, n int) []string {
	var all []string
	for i := 0; len(all) < n; i++ {
		if key := string([]byte{byte(37 * i)}) + fmt.Sprint(i); levelOf(key) == level {
			all = append(all, key)
		}
	}
	slices.Sort(all)
	return all
}

// longer returns a key that begins with this one and appears on this level and on none above it.
func longer(start string, level int) string {
	for i := 0; ; i++ {
		if key := start + fmt.Sprint(i); levelOf(key) == level {
			return key
		}
	}
}

// odd returns keys that are the beginning of one another, with zero bytes, with bytes from 128 on, and with bytes that are no text.
func odd() []string {
	all := []string{"", "a", "aa", "aaa", "ab", "b", "A", "Z", "a ", " a", "\x00", "\x00\x00", "\x00a", "a\x00", "a\x00b", "a\x00\x00", "\x7f", "\x80", "\x80\x80", "\xbf", "\xc3", "\xc3\x28", "\xc3\xa9", "\xff", "\xff\xff", "\xff\x00", "\x00\xff", "\xfe\xff", "a\xff", "a\x80", "e\u0301", "€", "\ufffd", "日本", "\xed\xa0\x80", "\xf4\x90\x80\x80", "key", "key\n", "0123456789abcdef", "123456789"}
	for n := 1; n <= 20; n++ {
		all = append(all, strings.Repeat("k", n), strings.Repeat("\xfe", n), "key"+strings.Repeat("\x00", n))
	}
	for level := 1; level <= 4; level++ {
		all = append(all, longer("", level), longer("a", level), longer("\x00", level), longer("\xff", level))
	}
	long := strings.Repeat("long", 1000)
	return append(all, long, long+"\x00", long[1:])
}

// far are levels that are not there, some of which would be if their upper bits were lost.
func far() []int {
	return []int{0, 5, -1, 6, 7, 8, -2, -3, -4, -5, 15, 16, 255, 256, 257, 1<<8 + 2, 1<<16 + 1, 1<<31 + 1, 1<<32 + 1, 1<<32 + 4, 1<<61 + 3, -1 << 31, -1<<32 + 3, math.MaxInt, math.MaxInt - 1, math.MinInt, math.MinInt + 1, math.MinInt + 4}
}

// is fails the test if Right does not return this link.
func is(t *testing.T, o *Order, level int, pos string, past bool, want api.Link) {
	t.Helper()
	if l, ok := o.Right(level, pos, past); l != want || !ok {
		t.Errorf("Right(%d, %.24q, %v) = %s, %v, want %s", level, pos, past, tell(l), ok, tell(want))
	}
}

// none fails the test if Right returns a link.
func none(t *testing.T, o *Order, level int, pos string, past bool) {
	t.Helper()
	if l, ok := o.Right(level, pos, past); l != (api.Link{}) || ok {
		t.Errorf("Right(%d, %.24q, %v) = %s, %v, want none", level, pos, past, tell(l), ok)
	}
}

// answers fails the test if a call did not report this.
func answers(t *testing.T, call string, got, want bool) {
	t.Helper()
	if got != want {
		t.Errorf("%s = %v, want %v", call, got, want)
	}
}

func TestExamples(t *testing.T) {
	l := link("123456789", 1)
	o := New()
	answers(t, "Set", o.Set(l), false)
	is(t, o, 3, "", false, l)
	none(t, o, 4, "", false)
	none(t, o, 1, "123456789", true)
}

func TestP13_1_New(t *testing.T) {
	b := newBoth(t)
	if b.o == nil {
		t.Fatal("no order")
	}
	for _, key := range odd() {
		answers(t, "Drop of an empty order", b.o.Drop(key), false)
		for level := range 6 {
			none(t, b.o, level, key, false)
			none(t, b.o, level, key, true)
		}
	}
	b.whole()
}

// A key that is new, one that has a link, one that has the same link, and one that was dropped; the same key dropped twice.
func TestP13_1_SetAndDrop(t *testing.T) {
	for _, key := range odd() {
		o := New()
		answers(t, "Set of a new key", o.Set(link(key, 1)), false)
		answers(t, "Set of the same link again", o.Set(link(key, 1)), true)
		answers(t, "Set of another link", o.Set(link(key, 2)), true)
		if all := o.All(); !slices.Equal(all, links(key, key, key)[2:]) || o.Len() != 1 {
			t.Errorf("All is %s, Len %d, want %s", tell(all...), o.Len(), tell(link(key, 2)))
		}
		answers(t, "Drop", o.Drop(key), true)
		answers(t, "Drop of the same key again", o.Drop(key), false)
		if all := o.All(); len(all) != 0 || o.Len() != 0 {
			t.Errorf("All is %s, Len %d, want nothing", tell(all...), o.Len())
		}
		for level := range 6 {
			none(t, o, level, "", false)
		}
		answers(t, "Set of a key that was dropped", o.Set(link(key, 1)), false)
		is(t, o, 1, "", false, link(key, 1))
		is(t, o, levelOf(key), "", false, link(key, 1))
		none(t, o, levelOf(key)+1, "", false)
		answers(t, "Drop behind that", o.Drop(key), true)
	}
}

// The link that replaces another one is kept whole, on each level of its key and on no other, whichever of its fields are other ones and whatever they are: the order asks nothing of them.
func TestP13_1_Whole(t *testing.T) {
	numbers := []uint64{0, 1, 7, 1<<32 - 1, 1 << 61, 1<<61 + 1, math.MaxUint64}
	lines := []int{0, -1, 2, 257, 258, math.MaxInt, math.MinInt}
	for _, key := range []string{"", longer("a", 1), longer("a", 2), longer("a", 3), longer("a", 4), longer("\x00", 4), longer("\xff", 3)} {
		b := newBoth(t)
		for _, id := range numbers {
			for _, ver := range numbers {
				for _, n := range lines {
					b.set(api.Link{Key: key, ID: id, Ver: ver, Line: n, Class: 3})
					b.sameAt("")
					b.set(api.Link{Key: key, ID: id, Ver: ver, Line: 3, Class: n})
					b.sameAt("")
				}
			}
		}
		b.whole()
		if n := b.along(); n != levelOf(key) {
			t.Errorf("the link of %q is on %d levels, want %d", key, n, levelOf(key))
		}
		b.drop(key)
		b.whole()
	}
}

// A link that is zero but for its key, or wholly zero, is a link: it has to be told from none.
func TestP13_1_ZeroLink(t *testing.T) {
	for _, key := range []string{"", "a", longer("b", 4)} {
		zero := api.Link{Key: key}
		b := bothOf(t, zero)
		b.whole()
		b.set(zero)
		b.set(link(key, 5))
		b.set(zero)
		b.whole()
		b.drop(key)
		b.whole()
	}
}

// What is replaced or dropped is nobody else's link, on any level.
func TestP13_1_OthersStay(t *testing.T) {
	keys := odd()
	b := bothOf(t, links(keys...)...)
	b.whole()
	for i, key := range keys {
		b.set(link(key, 500+i))
		b.same()
		b.along()
	}
	b.whole()
	for _, key := range keys {
		b.drop(key)
		b.drop(key)
		b.same()
		b.along()
	}
	b.whole()
}

// Drop of keys that have no link, beside a key that has one: shorter and longer ones, those around, and those of any level.
func TestP13_1_DropOfNothing(t *testing.T) {
	for _, l := range links(odd()...) {
		b := bothOf(t, l)
		keys := []string{l.Key + "\x00", l.Key + "a", "\x00" + l.Key, l.Key + l.Key + "x", strings.ToUpper(l.Key) + "!", strings.TrimSpace(l.Key) + "\t", l.Key + " "}
		if n := len(l.Key); n > 0 {
			keys = append(keys, l.Key[1:], l.Key[:n-1], l.Key[:n-1]+string([]byte{l.Key[n-1] + 1}))
		}
		for _, key := range append(keys, odd()...) {
			if key != l.Key {
				answers(t, fmt.Sprintf("Drop(%.24q) beside %.24q", key, l.Key), b.o.Drop(key), false)
			}
		}
		b.whole()
	}
}

// All and Len behind each Set and each Drop of many.
func TestP13_1_AllAndLen(t *testing.T) {
	b := newBoth(t)
	key := func(i int) string { return string([]byte{byte(91 * i), byte(i)}) }
	for i := range 256 {
		b.set(link(key(i), i))
		b.same()
		b.set(link(key(i), i+1))
		b.same()
	}
	for i := range 256 {
		b.drop(key(151 * i % 256))
		b.same()
		b.drop(key(151 * i % 256))
		b.same()
	}
}

// The order in which keys were set tells nothing: neither the first nor the last one is ahead.
func TestP13_1_AnyOrderOfSets(t *testing.T) {
	all := links(odd()...)
	d := dice(17)
	for range 10 {
		for i := range all {
			j := d.upTo(i + 1)
			all[i], all[j] = all[j], all[i]
		}
		bothOf(t, all...).whole()
	}
	sorted := ascending(all)
	bothOf(t, sorted...).whole()
	slices.Reverse(sorted)
	bothOf(t, sorted...).whole()
}

// Ascending is by bytes: neither by runes, nor by length, nor by letters without their case.
func TestP13_1_ByBytes(t *testing.T) {
	want := links("", "\x00", "\x00\x00", "\x00\xff", "\x01", "10", "9", "A", "Z", "a", "a\x00", "a\x00b", "a\x01", "aa", "aaa", "ab", "b", "e\u0301", "\x7f", "\x80", "\xbf\xff", "\xc3", "\xc3\x28", "é", "日", "\ufffd", "\U0001f600", "\xfe", "\xff", "\xff\x00", "\xff\xff")
	for step := 1; step < len(want); step++ {
		o := New()
		for i := range want {
			// The number of links is a prime, so that every step reaches them all.
			o.Set(want[i*step%len(want)])
		}
		if all := o.All(); !slices.Equal(all, want) {
			t.Errorf("All: %s", differ(all, want))
		}
		pos, past := "", false
		for _, l := range want {
			is(t, o, 1, pos, past, l)
			pos, past = l.Key, true
		}
		none(t, o, 1, pos, past)
	}
}

// Many keys of each level, from every position: before all, at each, right behind each, right ahead of each, behind all, and at keys that are not on the level that is asked.
func TestP13_2_Positions(t *testing.T) {
	var at [5][]api.Link
	o := New()
	for level := 1; level <= 4; level++ {
		for _, l := range links(on(level, 40)...) {
			o.Set(l)
			for i := 1; i <= level; i++ {
				at[i] = append(at[i], l)
			}
		}
	}
	for level := 1; level <= 4; level++ {
		all := ascending(at[level])
		is(t, o, level, "", true, all[0])
		for i, l := range all {
			is(t, o, level, l.Key, false, all[0])
			n := len(l.Key) - 1
			for _, pos := range []string{l.Key, l.Key + "\x00", l.Key + "\x00\xff"} {
				if i+1 < len(all) {
					is(t, o, level, pos, true, all[i+1])
				} else {
					none(t, o, level, pos, true)
				}
			}
			if i == 0 || all[i-1].Key < l.Key[:n] {
				is(t, o, level, l.Key[:n], true, l)
			}
			if ahead := l.Key[:n] + string([]byte{l.Key[n] - 1}) + "\xff"; i == 0 || all[i-1].Key < ahead {
				is(t, o, level, ahead, true, l)
			}
		}
		none(t, o, level, "\xff\xff\xff\xff\xff", true)
		is(t, o, level, "\xff\xff\xff\xff\xff", false, all[0])
	}
}

// A position is a place among the keys, whether or not a key is there, on this level or on a lower one only.
func TestP13_2_AnyPosition(t *testing.T) {
	b := bothOf(t, links(odd()...)...)
	b.sameAt(odd()...)
	for level := 1; level <= 4; level++ {
		b.sameAt(on(level, 60)...)
	}
	d := dice(5)
	b.sameAt(d.some(500)...)
}

// At a key that is not on the level, Right passes what is below it and nothing else.
func TestP13_2_AtALowerKey(t *testing.T) {
	low, high, higher := link(longer("m", 1), 1), link(longer("a", 4), 2), link(longer("z", 4), 3)
	b := bothOf(t, high, low, higher)
	for level := 2; level <= 4; level++ {
		is(t, b.o, level, low.Key, true, higher)
		is(t, b.o, level, low.Key, false, high)
	}
	is(t, b.o, 1, high.Key, true, low)
	is(t, b.o, 2, high.Key, true, higher)
	b.drop(higher.Key)
	none(t, b.o, 2, low.Key, true)
	none(t, b.o, 2, high.Key, true)
	b.drop(low.Key)
	is(t, b.o, 4, low.Key, false, high)
	b.whole()
}

func TestP13_2_NoLevel(t *testing.T) {
	full := bothOf(t, links(append(odd(), on(4, 30)...)...)...).o
	for _, level := range far() {
		for _, pos := range []string{"", "a", "\xff\xff", on(4, 1)[0], on(1, 1)[0]} {
			for _, past := range []bool{false, true} {
				none(t, full, level, pos, past)
				none(t, New(), level, pos, past)
			}
		}
	}
}

// All keys are of one level: the levels above it have none, and those below have them all.
func TestP13_2_OneLevel(t *testing.T) {
	for level := 1; level <= 4; level++ {
		all := links(on(level, 300)...)
		b := bothOf(t, all...)
		b.whole()
		if n := b.along(); n != level*300 {
			t.Errorf("300 keys of level %d were reached %d times in all", level, n)
		}
		for i, l := range all {
			b.drop(l.Key)
			if i+1 < len(all) {
				is(t, b.o, level, "", false, all[i+1])
				is(t, b.o, level, l.Key, true, all[i+1])
			}
			none(t, b.o, level+1, "", false)
		}
		b.whole()
	}
}

// The first, a middle and the last link of each level, dropped and set again.
func TestP13_2_DroppedAndSetAgain(t *testing.T) {
	for level := 1; level <= 4; level++ {
		var keys []string
		for other := 1; other <= 4; other++ {
			keys = append(keys, on(other, 15)...)
		}
		b := bothOf(t, links(keys...)...)
		keys = on(level, 15)
		for i, key := range []string{keys[0], keys[7], keys[14], keys[7], keys[0]} {
			b.drop(key)
			b.whole()
			b.set(link(key, 300+i))
			b.whole()
		}
		for _, key := range keys {
			b.drop(key)
		}
		b.whole()
		slices.Reverse(keys)
		for i, key := range keys {
			b.set(link(key, 400+i))
			b.along()
		}
		b.whole()
	}
}

// The empty key is the least of all, and is on level 1 only; the empty position, where past is true, passes it and nothing else, and where past is false no position is of any account.
func TestP13_2_EmptyKey(t *testing.T) {
	empty, zero, high := link("", 7), link("\x00", 8), link(longer("\x00\x00", 4), 9)
	o := New()
	o.Set(empty)
	is(t, o, 1, "", false, empty)
	is(t, o, 1, "zz", false, empty)
	none(t, o, 1, "", true)
	none(t, o, 1, "\x00", true)
	none(t, o, 2, "", false)
	o.Set(zero)
	o.Set(high)
	is(t, o, 1, "", false, empty)
	is(t, o, 1, "", true, zero)
	is(t, o, 1, "\x00", true, high)
	is(t, o, 4, "", true, high)
	is(t, o, 4, "", false, high)
	is(t, o, 4, "zz", false, high)
	answers(t, "Drop of the empty key", o.Drop(""), true)
	answers(t, "Drop of the empty key again", o.Drop(""), false)
	is(t, o, 1, "", false, zero)
	is(t, o, 1, "", true, zero)
	bothOf(t, empty, high, zero).whole()
}

// P13.3 with nothing that changes: level 1 has each key once, of a thousand, and the higher a level is, the further right is what it returns.
func TestP13_3_Levels(t *testing.T) {
	var all []api.Link
	for i := range 1000 {
		all = append(all, link(fmt.Sprint("key ", i*i), i))
	}
	b := bothOf(t, all...)
	reached := 0
	for l, ok := b.o.Right(1, "", false); ok; l, ok = b.o.Right(1, l.Key, true) {
		if reached++; l != b.m.list[reached-1] {
			t.Fatalf("link %d of level 1 is %s, want %s", reached, tell(l), tell(b.m.list[reached-1]))
		}
	}
	if reached != 1000 {
		t.Errorf("level 1 has %d keys, want 1000", reached)
	}
	b.whole()
}

// The key that was reached is dropped, each time, and the way goes on from it.
func TestP13_3_DroppedBehind(t *testing.T) {
	for level := 1; level <= 4; level++ {
		b := bothOf(t, links(append(on(level, 50), on(4, 10)...)...)...)
		pos, past := "", false
		for {
			l, ok := b.right(level, pos, past)
			if !ok {
				break
			}
			b.drop(l.Key)
			pos, past = l.Key, true
		}
		b.whole()
		if b.o.Len() != 0 {
			t.Errorf("level %d was gone along, and %d links are left", level, b.o.Len())
		}
	}
}

// A key is its bytes: a piece of a longer string is the same key as a copy of it.
func TestR5_Pieces(t *testing.T) {
	whole := strings.Join(odd(), "|")
	for from := range 60 {
		for n := range 5 {
			piece := whole[from : from+n]
			o := New()
			o.Set(link(piece, 1))
			answers(t, "Set of a copy", o.Set(link(strings.Clone(piece), 2)), true)
			none(t, o, 1, strings.Clone(piece), true)
			answers(t, "Drop of the piece", o.Drop(piece), true)
		}
	}
}

func TestR3_NoOrder(t *testing.T) {
	var o *Order
	for _, key := range odd() {
		answers(t, "Set of no order", o.Set(link(key, 1)), false)
		answers(t, "Set of no order again", o.Set(link(key, 1)), false)
		answers(t, "Drop of no order", o.Drop(key), false)
		for _, level := range append(far(), 1, 2, 3, 4) {
			none(t, o, level, key, false)
			none(t, o, level, key, true)
		}
		if all := o.All(); len(all) != 0 || o.Len() != 0 {
			t.Errorf("no order: All %s, Len %d", tell(all...), o.Len())
		}
	}
}

// An order that New did not make: nothing is promised for it but an answer.
func TestR1_AnotherOrder(t *testing.T) {
	o := &Order{}
	o.Drop("a")
	o.Right(3, "a", false)
	o.All()
	o.Len()
	o.Set(link("a", 1))
	o.Set(link("a", 2))
	o.Drop("a")
}

// Keys of a megabyte, each nearly another one, end in their time.
func TestR1_GreatKeys(t *testing.T) {
	great := strings.Repeat("0123456789abcdef", 1<<16)
	b := bothOf(t, links(great, great+"\x00", great+"0", great[:len(great)-1], great[1:])...)
	b.whole()
	for _, l := range slices.Clone(b.m.list) {
		b.drop(l.Key)
		b.same()
		b.along()
	}
}

// spoil writes over what All returned, and behind it.
func spoil(all []api.Link) {
	all = all[:cap(all)]
	for i := range all {
		all[i] = api.Link{Key: "junk", ID: 99, Ver: 99, Line: -9, Class: -9}
	}
	_ = append(all, link("junk", 9))
}

// What All returned may be written over and appended to: neither the order nor other answers change.
func TestR4_AnswersAreNewMemory(t *testing.T) {
	keys := odd()
	b := newBoth(t)
	spoil(b.o.All())
	b.whole()
	turn := func() {
		one, other := b.o.All(), b.o.All()
		spoil(one)
		if !slices.Equal(other, b.m.list) {
			t.Errorf("another answer: %s", differ(other, b.m.list))
		}
		spoil(other)
		b.same()
		b.along()
	}
	for i, key := range keys {
		b.set(link(key, i))
		turn()
	}
	for _, key := range keys {
		b.drop(key)
		turn()
	}
	b.whole()
}

// What All returned stays as it was, whatever is called later.
func TestR4_AnswersStay(t *testing.T) {
	b := newBoth(t)
	var got, want [][]api.Link
	ask := func() {
		got, want = append(got, b.o.All()), append(want, slices.Clone(b.m.list))
	}
	for level := 1; level <= 4; level++ {
		for i, key := range on(level, 20) {
			b.set(link(key, i))
			ask()
			b.set(link(key, 700+i))
			ask()
		}
	}
	for _, key := range on(1, 20) {
		b.drop(key)
		ask()
	}
	b.set(link("another", 9))
	for i := range got {
		if !slices.Equal(got[i], want[i]) {
			t.Errorf("answer %d: %s", i, differ(got[i], want[i]))
		}
	}
}

// What is set in one order is not seen in another one.
func TestR5_TwoOrders(t *testing.T) {
	keys := odd()
	one, other := newBoth(t), newBoth(t)
	for i, key := range keys {
		switch i % 4 {
		case 0:
			one.set(link(key, i))
		case 1:
			other.set(link(key, i))
		case 2:
			one.set(link(key, i))
			other.set(link(key, 500+i))
		}
		if i%3 == 0 {
			one.drop(keys[i/2])
		}
	}
	one.whole()
	other.whole()
	for _, key := range keys {
		one.drop(key)
	}
	one.whole()
	other.whole()
}

// The same calls are answered alike, by one order asked again and by orders made anew, whatever was called in between.
func TestR5_AskedAgain(t *testing.T) {
	all := links(append(on(3, 60), odd()...)...)
	first := bothOf(t, all...)
	for range 5 {
		b := bothOf(t, all...)
		for _, key := range on(4, 20) {
			b.set(link(key, 3))
			b.drop(key)
		}
		for range 2 {
			b.sameAt(odd()...)
			first.sameAt(odd()...)
			if got, want := b.o.All(), first.o.All(); !slices.Equal(got, want) {
				t.Fatalf("All of two orders that are the same: %s", differ(got, want))
			}
		}
		slices.Reverse(all)
	}
}

// Orders of several goroutines do not disturb each other.
func TestR5_ManyGoroutines(t *testing.T) {
	var wait sync.WaitGroup
	for g := range 8 {
		wait.Go(func() {
			if what := fillAndEmpty(g); what != "" {
				t.Errorf("goroutine %d: %s", g, what)
			}
		})
	}
	wait.Wait()
}

// fillAndEmpty sets links and drops them again, time after time, and returns what was wrong.
func fillAndEmpty(g int) string {
	o := New()
	for round := range 10 {
		for i := range 200 {
			l := link(fmt.Sprintf("%03d", (i*7+g)%200), i+g)
			if o.Set(l) || o.Len() != i+1 {
				return fmt.Sprintf("Set(%s) of round %d, and Len is %d", tell(l), round, o.Len())
			}
		}
		for i, l := range o.All() {
			if l.Key != fmt.Sprintf("%03d", i) {
				return fmt.Sprintf("link %d is %s", i, tell(l))
			}
			if m, ok := o.Right(1, "", false); m != l || !ok || !o.Drop(l.Key) {
				return fmt.Sprintf("Right is %s, %v, and the least one is %s", tell(m), ok, tell(l))
			}
		}
	}
	return ""
}
