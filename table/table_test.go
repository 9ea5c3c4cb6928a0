package table

import (
	"fmt"
	"hash/crc32"
	"math"
	"slices"
	"strings"
	"sync"
	"testing"

	"fusee/api"
)

// bucketOf is the bucket of a key, by chapter 11's words.
func bucketOf(key string) int { return int(crc32.ChecksumIEEE([]byte(key)) % 8) }

// link returns a link of the key, in which every field is n's own.
func link(key string, n int) api.Link {
	return api.Link{Key: key, ID: uint64(1000 + n), Ver: uint64(2000 + n), Line: 2 + n, Class: n % 4}
}

// links returns one link of each key.
func links(keys ...string) []api.Link {
	var all []api.Link
	for i, key := range keys {
		all = append(all, link(key, i))
	}
	return all
}

// tell writes links for a message: keys are quoted and cut short, and of many links the first ones stand for all.
func tell(all ...api.Link) string {
	var text strings.Builder
	for i, l := range all {
		if i == 12 {
			fmt.Fprintf(&text, " .. %d in all", len(all))
			break
		}
		fmt.Fprintf(&text, "{%.24q %d %d %d %d}", l.Key, l.ID, l.Ver, l.Line, l.Class)
	}
	return text.String()
}

// first names the first place at which two lists of links differ.
func first(got, want []api.Link) string {
	at := 0
	for at < len(got) && at < len(want) && got[at] == want[at] {
		at++
	}
	return fmt.Sprintf("from %d on %s, want %s", at, tell(got[at:]...), tell(want[at:]...))
}

// ascending returns the links in ascending order of their keys.
func ascending(all []api.Link) []api.Link {
	sorted := slices.Clone(all)
	slices.SortFunc(sorted, func(a, b api.Link) int {
		switch {
		case a.Key < b.Key:
			return -1
		case a.Key > b.Key:
			return 1
		}
		return 0
	})
	return sorted
}

// in returns n keys of the bucket, in ascending order, none of them empty. They are numbers with other bytes around them.
func in(bucket, n int) []string {
	var all []string
	for i := 0; len(all) < n; i++ {
		key := string([]byte{byte(37 * i)}) + fmt.Sprint(i)
		if bucketOf(key) == bucket {
			all = append(all, key)
		}
	}
	slices.Sort(all)
	return all
}

// odd returns keys that are the beginning of one another, with zero bytes, with bytes from 128 on, and with bytes that are no text.
func odd() []string {
	all := []string{"", "a", "aa", "aaa", "ab", "b", "A", "Z", "a ", " a", "\x00", "\x00\x00", "\x00a", "a\x00", "a\x00b", "a\x00\x00", "\x7f", "\x80", "\x80\x80", "\xbf", "\xc3", "\xc3\x28", "\xc3\xa9", "\xff", "\xff\xff", "\xff\x00", "\x00\xff", "\xfe\xff", "a\xff", "a\x80", "e\u0301", "€", "\ufffd", "日本", "\xed\xa0\x80", "\xf4\x90\x80\x80", "key", "key\n", "0123456789abcdef"}
	for n := 1; n <= 20; n++ {
		all = append(all, strings.Repeat("k", n), strings.Repeat("\xfe", n), "key"+strings.Repeat("\x00", n))
	}
	return append(all, strings.Repeat("long", 1000), strings.Repeat("long", 1000)+"\x00")
}

// far are buckets that are not there, some of which would be if their upper bits were lost or if they were taken modulo Buckets.
func far() []int {
	return []int{-1, 8, -2, -7, -8, -9, 9, 15, 16, 17, 255, 256, 257, 1 << 16, 1 << 31, 1<<31 + 3, 1 << 32, 1<<32 + 3, 1<<61 + 3, -1 << 31, -1<<32 + 3, -5, math.MaxInt, math.MinInt, math.MinInt + 3}
}

// filled returns a table with these links.
func filled(t *testing.T, all ...api.Link) *Table {
	t.Helper()
	x := New()
	for _, l := range all {
		x.Set(l)
	}
	return x
}

// sets fails the test if Set does not report whether the key had a link.
func sets(t *testing.T, x *Table, l api.Link, had bool) {
	t.Helper()
	if got := x.Set(l); got != had {
		t.Errorf("Set(%s) = %v, want %v", tell(l), got, had)
	}
}

// gets fails the test if the key's link is not this one, asked twice.
func gets(t *testing.T, x *Table, want api.Link) {
	t.Helper()
	for range 2 {
		if l, ok := x.Get(want.Key); l != want || !ok {
			t.Errorf("Get(%.24q) = %s, %v, want %s", want.Key, tell(l), ok, tell(want))
		}
	}
}

// drops fails the test if Drop does not return this link, the first time, and none, the second time.
func drops(t *testing.T, x *Table, want api.Link) {
	t.Helper()
	if l, ok := x.Drop(want.Key); l != want || !ok {
		t.Errorf("Drop(%.24q) = %s, %v, want %s", want.Key, tell(l), ok, tell(want))
	}
	without(t, x, want.Key)
}

// without fails the test if Get or Drop finds a link of the key.
func without(t *testing.T, x *Table, key string) {
	t.Helper()
	n := x.Len()
	if l, ok := x.Get(key); l != (api.Link{}) || ok {
		t.Errorf("Get(%.24q) = %s, %v, want none", key, tell(l), ok)
	}
	if l, ok := x.Drop(key); l != (api.Link{}) || ok {
		t.Errorf("Drop(%.24q) = %s, %v, want none", key, tell(l), ok)
	}
	if x.Len() != n {
		t.Errorf("Len is %d behind a Drop of nothing, and was %d", x.Len(), n)
	}
}

// next fails the test if Next does not return this link.
func next(t *testing.T, x *Table, bucket int, pos string, past bool, want api.Link) {
	t.Helper()
	if l, ok := x.Next(bucket, pos, past); l != want || !ok {
		t.Errorf("Next(%d, %.24q, %v) = %s, %v, want %s", bucket, pos, past, tell(l), ok, tell(want))
	}
}

// noNext fails the test if Next returns a link.
func noNext(t *testing.T, x *Table, bucket int, pos string, past bool) {
	t.Helper()
	if l, ok := x.Next(bucket, pos, past); l != (api.Link{}) || ok {
		t.Errorf("Next(%d, %.24q, %v) = %s, %v, want none", bucket, pos, past, tell(l), ok)
	}
}

// holds fails the test if the table's links are not these, by all that it can be asked.
func holds(t *testing.T, x *Table, want ...api.Link) {
	t.Helper()
	want = ascending(want)
	if all, n := x.All(), x.Len(); !slices.Equal(all, want) || n != len(want) {
		t.Errorf("the table holds %d links, want %d, and All is %s", n, len(want), first(all, want))
	}
	for _, l := range want {
		gets(t, x, l)
	}
	walks(t, x, want)
}

// walks fails the test if a way through all buckets does not reach these links.
func walks(t *testing.T, x *Table, want []api.Link) {
	t.Helper()
	for bucket := range 8 {
		pos, past := "", false
		for _, l := range want {
			if bucketOf(l.Key) == bucket {
				next(t, x, bucket, pos, past, l)
				pos, past = l.Key, true
			}
		}
		noNext(t, x, bucket, pos, past)
	}
}

func TestExamples(t *testing.T) {
	a, b, b2 := link("a", 1), link("b", 2), link("b", 3)
	x := New()
	sets(t, x, b, false)
	sets(t, x, a, false)
	sets(t, x, b2, true)
	gets(t, x, b2)
	if x.Len() != 2 {
		t.Errorf("Len is %d, want 2", x.Len())
	}
	if all := x.All(); !slices.Equal(all, []api.Link{a, b2}) {
		t.Errorf("All is %s, want %s", tell(all...), tell(a, b2))
	}
	drops(t, x, a)
	holds(t, x, b2)
}

func TestP12_1_New(t *testing.T) {
	x := New()
	if x == nil {
		t.Fatal("no table")
	}
	holds(t, x)
	for _, key := range odd() {
		without(t, x, key)
		for bucket := range 8 {
			noNext(t, x, bucket, key, false)
			noNext(t, x, bucket, key, true)
		}
	}
	holds(t, x)
}

// A key that is new, one that has a link, one that has the same link, and one that was dropped.
func TestP12_1_Set(t *testing.T) {
	for _, key := range odd() {
		x := New()
		sets(t, x, link(key, 1), false)
		holds(t, x, link(key, 1))
		sets(t, x, link(key, 1), true)
		holds(t, x, link(key, 1))
		sets(t, x, link(key, 2), true)
		holds(t, x, link(key, 2))
		drops(t, x, link(key, 2))
		holds(t, x)
		sets(t, x, link(key, 1), false)
		holds(t, x, link(key, 1))
		sets(t, x, link(key, 3), true)
		sets(t, x, link(key, 1), true)
		drops(t, x, link(key, 1))
		holds(t, x)
	}
}

// The link that takes the place of another one is kept whole, whichever of its fields are other ones, and whatever they are: the table asks nothing of them.
func TestP12_1_Whole(t *testing.T) {
	ids := []uint64{0, 1, 7, 1<<32 - 1, 1 << 61, 1<<61 + 1, math.MaxUint64}
	lines := []int{0, -1, 2, 257, 258, math.MaxInt, math.MinInt}
	for _, key := range []string{"", "a", "\x00", "\xff\xfe"} {
		x, had := New(), false
		for _, id := range ids {
			for _, ver := range ids {
				for _, n := range lines {
					for _, l := range []api.Link{
						{Key: key, ID: id, Ver: ver, Line: n, Class: 3},
						{Key: key, ID: id, Ver: ver, Line: 3, Class: n},
						{Key: key, ID: id, Ver: ver, Line: n, Class: n},
					} {
						sets(t, x, l, had)
						had = true
						gets(t, x, l)
						next(t, x, bucketOf(key), "", false, l)
						if all := x.All(); !slices.Equal(all, []api.Link{l}) {
							t.Errorf("All is %s, want %s", tell(all...), tell(l))
						}
					}
				}
			}
		}
		drops(t, x, api.Link{Key: key, ID: math.MaxUint64, Ver: math.MaxUint64, Line: math.MinInt, Class: math.MinInt})
	}
}

// A link that is zero but for its key, or wholly zero, is a link: it has to be told from none.
func TestP12_1_ZeroLink(t *testing.T) {
	for _, key := range []string{"", "a"} {
		zero := api.Link{Key: key}
		x := New()
		sets(t, x, zero, false)
		holds(t, x, zero)
		sets(t, x, zero, true)
		sets(t, x, link(key, 5), true)
		sets(t, x, zero, true)
		holds(t, x, zero)
		drops(t, x, zero)
		holds(t, x)
	}
}

// What is replaced or dropped is nobody else's link.
func TestP12_1_OthersStay(t *testing.T) {
	all := links(odd()...)
	x := filled(t, all...)
	holds(t, x, all...)
	for i, l := range all {
		other := link(l.Key, 500+i)
		sets(t, x, other, true)
		all[i] = other
		if got := x.All(); !slices.Equal(got, ascending(all)) {
			t.Errorf("behind Set(%s) All is %s", tell(other), first(got, ascending(all)))
		}
	}
	holds(t, x, all...)
	for len(all) > 0 {
		drops(t, x, all[0])
		all = all[1:]
		holds(t, x, all...)
	}
}

// Get and Drop of keys that have no link, beside keys that have one: shorter and longer ones, those around, and those of the same bucket.
func TestP12_1_KeysThatAreNot(t *testing.T) {
	for _, l := range links(odd()...) {
		x := filled(t, l)
		keys := []string{l.Key + "\x00", l.Key + "a", "\x00" + l.Key, l.Key + l.Key + "x", strings.ToUpper(l.Key) + "!", strings.TrimSpace(l.Key) + "\t"}
		if len(l.Key) > 0 {
			keys = append(keys, l.Key[1:]+"~", l.Key[:len(l.Key)-1]+string([]byte{l.Key[len(l.Key)-1] + 1}), l.Key[:len(l.Key)-1])
		}
		keys = append(keys, in(bucketOf(l.Key), 3)...)
		for _, key := range append(keys, odd()...) {
			if key != l.Key {
				without(t, x, key)
			}
		}
		holds(t, x, l)
	}
}

// A key is its bytes: a piece of a longer string is the same key as a copy of it.
func TestP12_1_Pieces(t *testing.T) {
	whole := strings.Join(odd(), "|")
	for from := range 60 {
		for n := range 5 {
			piece := whole[from : from+n]
			x := filled(t, link(piece, 1))
			alone := strings.Clone(piece)
			gets(t, x, link(alone, 1))
			sets(t, x, link(alone, 2), true)
			drops(t, x, link(piece, 2))
		}
	}
}

// The order in which keys were set tells nothing: neither the first nor the last one is ahead.
func TestP12_2_AnyOrderOfSets(t *testing.T) {
	all := links(odd()...)
	d := dice(17)
	for range 20 {
		for i := range all {
			j := d.upTo(i + 1)
			all[i], all[j] = all[j], all[i]
		}
		holds(t, filled(t, all...), all...)
	}
	holds(t, filled(t, ascending(all)...), all...)
	slices.Reverse(all)
	holds(t, filled(t, all...), all...)
}

// Every bucket with many links, from every position: before all, at each, right behind each, between two, behind all.
func TestP12_2_Positions(t *testing.T) {
	x := New()
	for bucket := range 8 {
		for _, l := range links(in(bucket, 40)...) {
			x.Set(l)
		}
	}
	for bucket := range 8 {
		all := links(in(bucket, 40)...)
		for _, pos := range append([]string{"", "\x00", "\xff", "\xff\xff\xff", "m"}, in(bucket, 41)...) {
			next(t, x, bucket, pos, false, all[0])
		}
		next(t, x, bucket, "", true, all[0])
		for i, l := range all {
			for _, pos := range []string{l.Key, l.Key + "\x00", l.Key + "\x00\xff"} {
				if i+1 < len(all) {
					next(t, x, bucket, pos, true, all[i+1])
				} else {
					noNext(t, x, bucket, pos, true)
				}
			}
			// Just below a key its link is the next one.
			below := l.Key[:len(l.Key)-1]
			if last := l.Key[len(l.Key)-1]; last > 0 {
				below += string([]byte{last - 1}) + "\xff"
			}
			next(t, x, bucket, below, true, l)
		}
		noNext(t, x, bucket, "\xff\xff\xff\xff\xff", true)
	}
}

// A position is a place among the keys, whether or not a key of the table, of this bucket or of another one, is there.
func TestP12_2_PositionOfAnotherBucket(t *testing.T) {
	all := links(odd()...)
	x := filled(t, all...)
	for _, pos := range append(odd(), in(2, 20)...) {
		for bucket := range 8 {
			var least api.Link
			some := false
			for _, l := range ascending(all) {
				if bucketOf(l.Key) == bucket && l.Key > pos && !some {
					least, some = l, true
				}
			}
			if some {
				next(t, x, bucket, pos, true, least)
			} else {
				noNext(t, x, bucket, pos, true)
			}
		}
	}
}

func TestP12_2_NoBucket(t *testing.T) {
	x := filled(t, links(append(odd(), in(3, 30)...)...)...)
	for _, bucket := range far() {
		for _, pos := range []string{"", "a", "\xff\xff", in(3, 1)[0]} {
			noNext(t, x, bucket, pos, false)
			noNext(t, x, bucket, pos, true)
			noNext(t, New(), bucket, pos, false)
			noNext(t, New(), bucket, pos, true)
		}
	}
}

// One bucket has links and the others have none.
func TestP12_2_OneBucket(t *testing.T) {
	for bucket := range 8 {
		all := links(in(bucket, 300)...)
		x := filled(t, all...)
		holds(t, x, all...)
		for other := range 8 {
			if other != bucket {
				noNext(t, x, other, "", false)
				noNext(t, x, other, "", true)
			}
		}
		for i, l := range all {
			drops(t, x, l)
			if i < len(all)-1 {
				next(t, x, bucket, "", false, all[i+1])
				next(t, x, bucket, l.Key, true, all[i+1])
			}
		}
		noNext(t, x, bucket, "", false)
		holds(t, x)
	}
}

// The empty key is a key of bucket 0, the least of all; the empty position, where past is true, passes it and nothing else.
func TestP12_2_EmptyKey(t *testing.T) {
	empty, zero, others := link("", 7), link("\x00", 8), links(in(0, 3)...)
	x := filled(t, empty)
	holds(t, x, empty)
	next(t, x, 0, "", false, empty)
	next(t, x, 0, "a", false, empty)
	noNext(t, x, 0, "", true)
	noNext(t, x, 0, "\x00", true)
	for bucket := 1; bucket < 8; bucket++ {
		noNext(t, x, bucket, "", false)
		noNext(t, x, bucket, "", true)
	}
	for _, l := range append(others, zero) {
		x.Set(l)
	}
	next(t, x, 0, "", false, empty)
	next(t, x, 0, "", true, others[0])
	next(t, x, bucketOf("\x00"), "", true, zero)
	next(t, x, bucketOf("\x00"), "", false, zero)
	noNext(t, x, bucketOf("\x00"), "\x00", true)
	drops(t, x, empty)
	next(t, x, 0, "", false, others[0])
	next(t, x, 0, "", true, others[0])
	holds(t, x, append(others, zero)...)
}

// Ascending is by bytes: neither by runes, nor by length, nor by letters without their case.
func TestP12_2_ByBytes(t *testing.T) {
	want := []string{"", "\x00", "\x00\x00", "\x00\xff", "\x01", "10", "9", "A", "Z", "a", "a\x00", "a\x00b", "a\x01", "aa", "aaa", "ab", "b", "e\u0301", "\x7f", "\x80", "\xbf\xff", "\xc3", "\xc3\x28", "é", "日", "\ufffd", "\U0001f600", "\xfe", "\xff", "\xff\x00", "\xff\xff"}
	all := links(want...)
	shuffled := slices.Clone(all)
	slices.SortFunc(shuffled, func(a, b api.Link) int { return bucketOf(a.Key+"x") - bucketOf(b.Key+"x") })
	x := filled(t, shuffled...)
	if got := x.All(); !slices.Equal(got, all) {
		t.Errorf("All is %s", first(got, all))
	}
	walks(t, x, all)
}

// All and Len behind each Set and each Drop of many.
func TestP12_2_AllAndLen(t *testing.T) {
	x := New()
	var want []api.Link
	asked := func() {
		t.Helper()
		if all, n := x.All(), x.Len(); !slices.Equal(all, ascending(want)) || n != len(want) {
			t.Fatalf("Len is %d, want %d, and All is %s", n, len(want), first(all, ascending(want)))
		}
	}
	asked()
	for i := range 256 {
		l := link(string([]byte{byte(91 * i), byte(i)}), i)
		sets(t, x, l, false)
		want = append(want, l)
		asked()
		sets(t, x, l, true)
		asked()
	}
	for i := range 256 {
		at := i * 151 % len(want)
		drops(t, x, want[at])
		want = slices.Delete(want, at, at+1)
		asked()
	}
}

// P12.3 with nothing that changes: each key once, of a thousand.
func TestP12_3_EachKeyOnce(t *testing.T) {
	var all []api.Link
	for i := range 1000 {
		all = append(all, link(fmt.Sprint("key ", i*i), i))
	}
	x := filled(t, all...)
	seen := map[string]int{}
	for bucket := range 8 {
		l, ok := x.Next(bucket, "", false)
		for ok {
			if bucketOf(l.Key) != bucket {
				t.Fatalf("%s is in bucket %d", tell(l), bucket)
			}
			if seen[l.Key]++; seen[l.Key] > 1 {
				t.Fatalf("%s was reached %d times", tell(l), seen[l.Key])
			}
			l, ok = x.Next(bucket, l.Key, true)
		}
	}
	if len(seen) != 1000 {
		t.Errorf("%d keys were reached, want 1000", len(seen))
	}
}

// The key that was reached is dropped, each time, and the way goes on from it.
func TestP12_3_DroppedBehind(t *testing.T) {
	for bucket := range 8 {
		all := links(in(bucket, 50)...)
		x := filled(t, all...)
		pos, past := "", false
		for _, want := range all {
			next(t, x, bucket, pos, past, want)
			drops(t, x, want)
			pos, past = want.Key, true
		}
		noNext(t, x, bucket, pos, past)
		holds(t, x)
	}
}

func TestR3_NoTable(t *testing.T) {
	var x *Table
	for _, key := range odd() {
		sets(t, x, link(key, 1), false)
		sets(t, x, link(key, 1), false)
		without(t, x, key)
		for _, bucket := range append(far(), 0, 1, 2, 3, 4, 5, 6, 7) {
			noNext(t, x, bucket, key, false)
			noNext(t, x, bucket, key, true)
		}
	}
	if all := x.All(); len(all) != 0 || x.Len() != 0 {
		t.Errorf("no table: All %s, Len %d", tell(all...), x.Len())
	}
}

// A table that New did not make: nothing is promised for it but an answer.
func TestR1_AnotherTable(t *testing.T) {
	x := &Table{}
	x.Get("a")
	x.Drop("a")
	x.Next(3, "a", false)
	x.All()
	x.Len()
	x.Set(link("a", 1))
	x.Set(link("a", 2))
	x.Drop("a")
}

// Keys of a megabyte, each nearly another one, end in their time.
func TestR1_GreatKeys(t *testing.T) {
	great := strings.Repeat("0123456789abcdef", 1<<16)
	all := links(great, great+"\x00", great+"0", great[:len(great)-1], great[1:])
	x := filled(t, all...)
	holds(t, x, all...)
	for _, l := range all {
		drops(t, x, l)
	}
}

// spoil writes over what All returned, and behind it.
func spoil(all []api.Link) {
	junk := api.Link{Key: "junk", ID: 99, Ver: 99, Line: -9, Class: -9}
	all = all[:cap(all)]
	for i := range all {
		all[i] = junk
	}
	_ = append(all[:0], junk, junk, junk)
	_ = append(all, junk)
}

// What All returned may be written over and appended to: neither the table nor other answers change.
func TestR4_AnswersAreNewMemory(t *testing.T) {
	all := links(odd()...)
	x := New()
	spoil(x.All())
	holds(t, x)
	for i, l := range all {
		x.Set(l)
		one, other := x.All(), x.All()
		spoil(one)
		if !slices.Equal(other, ascending(all[:i+1])) {
			t.Errorf("another answer is now %s", first(other, ascending(all[:i+1])))
		}
		spoil(other)
	}
	holds(t, x, all...)
	for i, l := range all {
		spoil(x.All())
		drops(t, x, l)
		spoil(x.All())
		holds(t, x, all[i+1:]...)
	}
}

// What All returned stays as it was, whatever is called later.
func TestR4_AnswersStay(t *testing.T) {
	all := links(in(5, 20)...)
	x := New()
	var answers [][]api.Link
	for _, l := range all {
		x.Set(l)
		answers = append(answers, x.All())
	}
	for i := range all {
		x.Set(link(all[i].Key, 700+i))
	}
	for i := range all[:10] {
		x.Drop(all[2*i].Key)
	}
	x.Set(link("another", 9))
	for i, got := range answers {
		if !slices.Equal(got, all[:i+1]) {
			t.Errorf("answer %d is now %s", i, first(got, all[:i+1]))
		}
	}
}

// What is set in one table is not seen in another one.
func TestR5_TwoTables(t *testing.T) {
	a, b, b2, c := link("a", 1), link("b", 2), link("b", 3), link("", 4)
	one, other := New(), New()
	sets(t, one, a, false)
	holds(t, other)
	sets(t, other, b, false)
	sets(t, one, b2, false)
	sets(t, other, c, false)
	holds(t, one, a, b2)
	holds(t, other, b, c)
	drops(t, one, b2)
	without(t, one, "")
	holds(t, one, a)
	holds(t, other, b, c)
	drops(t, other, b)
	without(t, other, "a")
	holds(t, one, a)
	holds(t, other, c)
}

// The same calls are answered alike, by one table asked again and by tables made anew, in whatever order their maps are gone through.
func TestR5_AskedAgain(t *testing.T) {
	all := links(append(in(6, 60), odd()...)...)
	first := filled(t, all...)
	for range 30 {
		x := filled(t, all...)
		for range 3 {
			if !slices.Equal(x.All(), first.All()) {
				t.Fatal("All of two tables that are the same is not the same")
			}
			for bucket := range 8 {
				for _, pos := range []string{"", "a", "\x80"} {
					for _, past := range []bool{false, true} {
						l, ok := first.Next(bucket, pos, past)
						if m, also := x.Next(bucket, pos, past); l != m || ok != also {
							t.Fatalf("Next(%d, %q, %v) = %s, %v, and was %s, %v", bucket, pos, past, tell(m), also, tell(l), ok)
						}
					}
				}
			}
		}
		slices.Reverse(all)
	}
}

// Tables of several goroutines do not disturb each other.
func TestR5_ManyGoroutines(t *testing.T) {
	var wait sync.WaitGroup
	for g := range 8 {
		wait.Go(func() {
			if what := fillAndEmpty(g); what != "" {
				t.Errorf("goroutine %d: %s", g, what)
			}
		})
	}
	wait.Wait()
}

// fillAndEmpty sets links and drops them again, time after time, and returns what was wrong.
func fillAndEmpty(g int) string {
	x := New()
	for round := range 10 {
		for i := range 200 {
			l := link(fmt.Sprintf("%03d", (i*7+g)%200), i+g)
			if x.Set(l) || x.Len() != i+1 {
				return fmt.Sprintf("Set(%s) of round %d, and Len is %d", tell(l), round, x.Len())
			}
		}
		for i, l := range x.All() {
			if l.Key != fmt.Sprintf("%03d", i) {
				return fmt.Sprintf("link %d is %s", i, tell(l))
			}
			if m, ok := x.Next(bucketOf(l.Key), "", false); !ok || m.Key < l.Key {
				return fmt.Sprintf("Next is %s, and the least one is %s", tell(m), tell(l))
			}
			if m, ok := x.Drop(l.Key); m != l || !ok {
				return fmt.Sprintf("Drop is %s, %v, want %s", tell(m), ok, tell(l))
			}
		}
	}
	return ""
}
