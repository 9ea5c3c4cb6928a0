package ideal

import (
	"bytes"
	"fmt"
	"math"
	"slices"
	"strings"
	"sync"
	"testing"

	"fusee/api"
)

// shelf returns a store of these keys and values in turn.
func shelf(texts ...string) api.Shelf {
	var s api.Shelf
	for i := 0; i+1 < len(texts); i += 2 {
		s.Pairs = append(s.Pairs, api.Pair{Key: texts[i], Value: texts[i+1]})
	}
	return s
}

// queue returns a store with no pairs and this queue.
func queue(values ...string) api.Shelf { return api.Shelf{Queue: values} }

// with returns s with another queue.
func with(s api.Shelf, values ...string) api.Shelf {
	s.Queue = values
	return s
}

// keyed returns a store of these keys in this order, each pair with a value of its own.
func keyed(keys ...string) api.Shelf {
	var s api.Shelf
	for i, key := range keys {
		s.Pairs = append(s.Pairs, api.Pair{Key: key, Value: fmt.Sprint("value ", i)})
	}
	return s
}

// odd returns keys with zero bytes, with bytes from 128 on, with bytes that are no text, and keys that are the beginning of one another.
func odd() []string {
	return []string{"a", "aa", "aaa", "ab", "b", "A", "a ", "\x00", "\x00\x00", "\x00a", "a\x00", "a\x00b", "\x7f", "\x80", "\x80\x80", "\xbf", "\xc3", "\xc3\x28", "é", "e\u0301", "\xff", "\xff\xff", "\xff\x00", "\x00\xff", "a\xff", "a\x80", "日本", "\ufffd", "\xed\xa0\x80", "\xf4\x90\x80\x80", longKey, longKey[1:], longKey[1:] + "\x00", strings.Repeat("\x00", 16), strings.Repeat("\xff", 16)}
}

// rows calls f with every row of up to n of these texts.
func rows(texts []string, n int, f func([]string)) {
	var more func(row []string)
	more = func(row []string) {
		f(row)
		if len(row) == n {
			return
		}
		for _, x := range texts {
			more(append(row[:len(row):len(row)], x))
		}
	}
	more(nil)
}

// is fails the test if Apply is not this store and this answer.
func is(t *testing.T, s api.Shelf, c api.Call, wantS api.Shelf, wantA api.Answer) {
	t.Helper()
	n, a := applies(t, s, c)
	if !sameShelf(n, wantS) || !sameAnswer(a, wantA) {
		t.Errorf("Apply(%s, %s) = %s, %s, want %s, %s", tellShelf(s), tellCall(c), tellShelf(n), tellAnswer(a), tellShelf(wantS), tellAnswer(wantA))
	}
}

func found(value string) api.Answer    { return api.Answer{Found: true, Value: value} }
func had(is bool) api.Answer           { return api.Answer{Found: is} }
func hits(l ...bool) api.Answer        { return api.Answer{Hits: l} }
func pairs(texts ...string) api.Answer { return api.Answer{Pairs: shelf(texts...).Pairs} }
func effect(kind int, texts ...string) api.Effect {
	e := api.Effect{Kind: kind}
	if len(texts) > 0 {
		e.Key = texts[0]
	}
	if len(texts) > 1 {
		e.Value = texts[1]
	}
	return e
}

func TestExamples(t *testing.T) {
	s, a := Apply(api.Shelf{}, put("b", "2"))
	if a.Found {
		t.Error("b was there")
	}
	s, a = Apply(s, put("a", "1"))
	if a.Found {
		t.Error("a was there")
	}
	s, a = Apply(s, scan("", ""))
	if want := shelf("a", "1", "b", "2"); !slices.Equal(a.Pairs, want.Pairs) || !sameShelf(s, want) {
		t.Errorf("the scan answers %s in %s", tellAnswer(a), tellShelf(s))
	}
	s, a = Apply(s, group(put("a", "3"), del("c"), enq("x")))
	if !slices.Equal(a.Hits, []bool{true, false, false}) {
		t.Errorf("the group answers %s", tellAnswer(a))
	}
	s, a = Apply(s, deq())
	if !a.Found || a.Value != "x" || !sameShelf(s, shelf("a", "3", "b", "2")) {
		t.Errorf("the deq answers %s in %s", tellAnswer(a), tellShelf(s))
	}
	good(t, get(""), api.ErrArg)
	good(t, put(overKey, ""), api.ErrTooBig)
	good(t, group(put("a", "1"), put("a", "2")), api.ErrArg)
}

func TestP15_1_May(t *testing.T) {
	for _, keys := range [][]string{nil, {""}, {"a"}, {"\xff"}, {"", "a"}, {"a", "b"}, {"a", "aa"}, {"a", "a\x00"}, {"", "\x00"}, {"\x7f", "\x80"}, {"z", "é"}, {"a", "b", "c", "d"}, {"B", "a"}, {"10", "9"}, {overKey, overKey + "k"}} {
		if s := keyed(keys...); !May(s) || !May(with(s, "z", "y", "y")) {
			t.Errorf("May(%s) is false", tellShelf(s))
		}
	}
	for _, keys := range [][]string{{"a", "a"}, {"", ""}, {"b", "a"}, {"a", ""}, {"aa", "a"}, {"a\x00", "a"}, {"\x80", "\x7f"}, {"é", "z"}, {"a", "b", "b"}, {"a", "a", "b"}, {"a", "c", "b"}, {"b", "a", "c"}, {"a", "b", "a"}, {"a", "b", "c", "c"}, {"a", "b", "d", "c"}, {"a", "B"}, {"9", "10"}} {
		if s := keyed(keys...); May(s) || May(with(s, "x")) {
			t.Errorf("May(%s) is true", tellShelf(s))
		}
	}
	if s := (api.Shelf{Pairs: []api.Pair{{Key: "a", Value: "1"}, {Key: "a", Value: "2"}}}); May(s) {
		t.Error("two pairs of one key may be")
	}
	if !May(queue()) || !May(queue("b", "a", "a")) {
		t.Error("a queue needs an order")
	}
}

// Every row of up to five keys of these, held against the order of the bytes.
func TestP15_1_MayOfEachRow(t *testing.T) {
	rows([]string{"", "a", "aa", "b", "\x00", "\xff"}, 5, func(keys []string) {
		s, want := keyed(keys...), true
		for i := range keys {
			for _, key := range keys[:i] {
				want = want && bytes.Compare([]byte(key), []byte(keys[i])) < 0
			}
		}
		if is := May(s); is != want {
			t.Fatalf("May(%s) = %v", tellShelf(s), is)
		}
	})
	for _, a := range odd() {
		for _, b := range odd() {
			if is := May(keyed(a, b)); is != (bytes.Compare([]byte(a), []byte(b)) < 0) {
				t.Errorf("May of the keys %q, %q is %v", a, b, is)
			}
		}
	}
}

func TestP15_1_Get(t *testing.T) {
	s := with(shelf("a", "1", "aa", "2", "b", ""), "q")
	for _, x := range []struct {
		key, value string
		found      bool
	}{{"a", "1", true}, {"aa", "2", true}, {"b", "", true}, {"", "", false}, {"aaa", "", false}, {"c", "", false}, {"A", "", false}, {"a\x00", "", false}, {"1", "", false}, {"q", "", false}, {overKey, "", false}} {
		if value, ok := Get(s, x.key); value != x.value || ok != x.found {
			t.Errorf("Get(%q) = %q, %v, want %q, %v", x.key, value, ok, x.value, x.found)
		}
	}
	for _, key := range []string{"", "a"} {
		if value, ok := Get(api.Shelf{}, key); value != "" || ok {
			t.Errorf("Get(%q) of the empty store = %q, %v", key, value, ok)
		}
	}
	// The empty key, and one that is too long, are keys like others for Get.
	if value, ok := Get(shelf("", "1", overKey, overValue), ""); value != "1" || !ok {
		t.Errorf("Get of the empty key = %q, %v", value, ok)
	}
	if value, ok := Get(shelf("", "1", overKey, overValue), overKey); value != overValue || !ok {
		t.Errorf("Get of a long key = %q, %v", value, ok)
	}
	if value, ok := Get(shelf("b", "1", "a", "2", "b", "3", "a", "4"), "b"); value != "1" || !ok {
		t.Errorf("Get of a key that is there twice = %q, %v", value, ok)
	}
	if value, ok := Get(shelf("b", "1", "a", "", "b", "3", "a", "4"), "a"); value != "" || !ok {
		t.Errorf("Get of a key that is there twice = %q, %v", value, ok)
	}
}

// Every store of up to five pairs of these keys, in order or not, and each key, with memory that is written over behind it.
func TestP15_1_GetOfEachRow(t *testing.T) {
	keys := []string{"", "a", "aa", "b"}
	rows(keys, 5, func(row []string) {
		s := keyed(row...)
		for _, key := range append(keys, "c") {
			hand := roomyShelf(s)
			value, ok := Get(hand, key)
			again, is := Get(hand, key)
			untouched(t, hand, s)
			fillShelf(hand)
			want, wanted := modelGet(s, key)
			if value != want || ok != wanted || again != want || is != wanted {
				t.Fatalf("Get(%s, %q) = %q, %v, want %q, %v", tellShelf(s), key, value, ok, want, wanted)
			}
		}
	})
}

// A call that is not valid leaves the store as it was, and is told its error alone.
func TestP15_2_NotValid(t *testing.T) {
	for _, s := range []api.Shelf{{}, shelf("a", "1"), queue("x"), with(shelf("b", "1", "a", "2", "b", "3"), "x", "y")} {
		for _, x := range []struct {
			c api.Call
			e api.Errno
		}{
			{api.Call{}, 1}, {api.Call{Kind: 9, Key: "a", Value: "1"}, 1}, {api.Call{Kind: -1}, 1}, {api.Call{Kind: math.MinInt}, 1},
			{get(""), 1}, {get(overKey), 5}, {put("", "1"), 1}, {put("", overValue), 1}, {put(overKey, "1"), 5}, {put("a", overValue), 5}, {del(""), 1}, {del(overKey), 5},
			{enq(overValue), 5}, {scan(overKey, ""), 5}, {scan("", overKey), 5},
			{group(), 1}, {group(put("a", "9"), put("a", "8")), 1}, {group(put("a", "9"), enq(overValue)), 5}, {group(enq("z"), del("a"), get("a")), 1}, {group(enq("1"), enq("2"), enq("3"), enq("4")), 1}, {group(del("a"), group(del("b"))), 1}, {group(put("c", "9"), put(overKey, "8")), 5},
		} {
			is(t, s, x.c, s, api.Answer{Code: x.e})
		}
	}
}

func TestP15_2_Get(t *testing.T) {
	s := with(shelf("a", "1", "b", ""), "x")
	is(t, s, get("a"), s, found("1"))
	is(t, s, get("b"), s, found(""))
	is(t, s, get("c"), s, had(false))
	is(t, s, get("ab"), s, had(false))
	is(t, api.Shelf{}, get("a"), api.Shelf{}, had(false))
	twice := shelf("b", "1", "a", "2", "b", "3")
	is(t, twice, get("b"), twice, found("1"))
	is(t, twice, get("a"), twice, found("2"))
}

// A new key goes before all, between two and behind all; that of a key that is there changes its value in its place.
func TestP15_2_Put(t *testing.T) {
	s := with(shelf("b", "1", "d", "2"), "x")
	is(t, s, put("a", "9"), with(shelf("a", "9", "b", "1", "d", "2"), "x"), had(false))
	is(t, s, put("c", "9"), with(shelf("b", "1", "c", "9", "d", "2"), "x"), had(false))
	is(t, s, put("e", "9"), with(shelf("b", "1", "d", "2", "e", "9"), "x"), had(false))
	is(t, s, put("b", "9"), with(shelf("b", "9", "d", "2"), "x"), had(true))
	is(t, s, put("d", "9"), with(shelf("b", "1", "d", "9"), "x"), had(true))
	is(t, s, put("d", "2"), s, had(true))
	is(t, s, put("d", ""), with(shelf("b", "1", "d", ""), "x"), had(true))
	is(t, s, put("bb", ""), with(shelf("b", "1", "bb", "", "d", "2"), "x"), had(false))
	is(t, s, put("b\x00", "9"), with(shelf("b", "1", "b\x00", "9", "d", "2"), "x"), had(false))
	is(t, s, put("\x00", "9"), with(shelf("\x00", "9", "b", "1", "d", "2"), "x"), had(false))
	is(t, s, put("\xff", "9"), with(shelf("b", "1", "d", "2", "\xff", "9"), "x"), had(false))
	is(t, api.Shelf{}, put("a", "1"), shelf("a", "1"), had(false))
	is(t, api.Shelf{}, put(longKey, longValue), shelf(longKey, longValue), had(false))
	is(t, shelf("a", longValue), put("a", ""), shelf("a", ""), had(true))
	is(t, queue("x", "y"), put("a", "1"), with(shelf("a", "1"), "x", "y"), had(false))
}

func TestP15_2_Del(t *testing.T) {
	s := with(shelf("a", "1", "b", "2", "c", "3"), "x")
	is(t, s, del("a"), with(shelf("b", "2", "c", "3"), "x"), had(true))
	is(t, s, del("b"), with(shelf("a", "1", "c", "3"), "x"), had(true))
	is(t, s, del("c"), with(shelf("a", "1", "b", "2"), "x"), had(true))
	is(t, s, del("d"), s, had(false))
	is(t, s, del("aa"), s, had(false))
	is(t, s, del("a\x00"), s, had(false))
	is(t, shelf("a", "1"), del("a"), api.Shelf{}, had(true))
	is(t, api.Shelf{}, del("a"), api.Shelf{}, had(false))
	is(t, queue("a"), del("a"), queue("a"), had(false))
}

// A store may hold a key more than once, and keys that don't ascend.
func TestP15_2_NotAscending(t *testing.T) {
	s := shelf("b", "1", "a", "2", "b", "3")
	is(t, s, put("b", "9"), shelf("b", "9", "a", "2", "b", "3"), had(true))
	is(t, s, put("a", "9"), shelf("b", "1", "a", "9", "b", "3"), had(true))
	is(t, s, del("b"), shelf("a", "2"), had(true))
	is(t, s, del("a"), shelf("b", "1", "b", "3"), had(true))
	is(t, s, put("aa", "9"), shelf("aa", "9", "b", "1", "a", "2", "b", "3"), had(false))
	is(t, s, put("0", "9"), shelf("0", "9", "b", "1", "a", "2", "b", "3"), had(false))
	is(t, s, put("c", "9"), shelf("b", "1", "a", "2", "b", "3", "c", "9"), had(false))
	is(t, shelf("a", "1", "d", "2", "b", "3", "e", "4"), put("c", "9"), shelf("a", "1", "c", "9", "d", "2", "b", "3", "e", "4"), had(false))
	is(t, shelf("a", "1", "a", "2"), put("a", "9"), shelf("a", "9", "a", "2"), had(true))
	is(t, shelf("a", "1", "a", "2"), put("b", "9"), shelf("a", "1", "a", "2", "b", "9"), had(false))
	is(t, shelf("b", "1", "b", "2"), put("a", "9"), shelf("a", "9", "b", "1", "b", "2"), had(false))
	is(t, shelf("a", "1", "a", "2", "a", "3"), del("a"), api.Shelf{}, had(true))
	is(t, shelf("c", "1", "a", "2", "b", "3"), scan("a", "c"), shelf("c", "1", "a", "2", "b", "3"), pairs("a", "2", "b", "3"))
	is(t, s, scan("b", ""), s, pairs("b", "1", "b", "3"))
	is(t, s, scan("", ""), s, pairs("b", "1", "a", "2", "b", "3"))
	is(t, s, group(put("b", "8"), del("a"), enq("x")), with(shelf("b", "8", "b", "3"), "x"), hits(true, true, false))
}

func TestP15_2_Queue(t *testing.T) {
	is(t, api.Shelf{}, enq("x"), queue("x"), had(false))
	is(t, api.Shelf{}, enq(""), queue(""), had(false))
	is(t, queue("x"), enq("x"), queue("x", "x"), had(false))
	is(t, queue("x", "y"), enq("a"), queue("x", "y", "a"), had(false))
	is(t, queue("x", "y"), enq(longValue), queue("x", "y", longValue), had(false))
	is(t, shelf("a", "1"), enq("x"), with(shelf("a", "1"), "x"), had(false))
	is(t, api.Shelf{}, deq(), api.Shelf{}, had(false))
	is(t, shelf("a", "1"), deq(), shelf("a", "1"), had(false))
	is(t, queue("x"), deq(), api.Shelf{}, found("x"))
	is(t, queue(""), deq(), api.Shelf{}, found(""))
	is(t, queue("x", "y", "x"), deq(), queue("y", "x"), found("x"))
	is(t, with(shelf("a", "1"), "z", "a"), deq(), with(shelf("a", "1"), "a"), found("z"))
	// What waits may be longer than what a call may bring.
	is(t, queue(overValue, "x"), deq(), queue("x"), found(overValue))
	// Many go in, and come out in the order in which they came.
	var s api.Shelf
	for i := range 50 {
		s, _ = applies(t, s, enq(fmt.Sprint(i*7%50)))
	}
	for i := range 50 {
		var a api.Answer
		s, a = applies(t, s, deq())
		if want := fmt.Sprint(i * 7 % 50); !a.Found || a.Value != want || len(s.Queue) != 49-i {
			t.Fatalf("deq %d answers %s and leaves %d, want %q", i, tellAnswer(a), len(s.Queue), want)
		}
	}
}

func TestP15_2_Scan(t *testing.T) {
	s := with(shelf("a", "1", "b", "2", "bb", "3", "d", "4"), "x")
	for _, x := range []struct {
		key, to string
		want    api.Answer
	}{
		{"", "", pairs("a", "1", "b", "2", "bb", "3", "d", "4")},
		{"a", "", pairs("a", "1", "b", "2", "bb", "3", "d", "4")},
		{"b", "", pairs("b", "2", "bb", "3", "d", "4")},
		{"b\x00", "", pairs("bb", "3", "d", "4")},
		{"c", "", pairs("d", "4")},
		{"d", "", pairs("d", "4")},
		{"e", "", pairs()},
		{"", "a", pairs()},
		{"", "\x00", pairs()},
		{"", "b", pairs("a", "1")},
		{"", "b\x00", pairs("a", "1", "b", "2")},
		{"a", "d", pairs("a", "1", "b", "2", "bb", "3")},
		{"b", "c", pairs("b", "2", "bb", "3")},
		{"b", "bb", pairs("b", "2")},
		{"b", "b", pairs()},
		{"d", "a", pairs()},
		{"d", "e", pairs("d", "4")},
		{"c", "cc", pairs()},
		{"\xff", "", pairs()},
		{"", "\xff", pairs("a", "1", "b", "2", "bb", "3", "d", "4")},
	} {
		is(t, s, scan(x.key, x.to), s, x.want)
		is(t, api.Shelf{}, scan(x.key, x.to), api.Shelf{}, api.Answer{})
	}
	// Pairs with keys and values that no put may bring are pairs like others.
	long := shelf("", "0", overKey, overValue)
	is(t, long, scan("", ""), long, api.Answer{Pairs: long.Pairs})
	is(t, long, scan("", longKey), long, pairs("", "0"))
	is(t, long, scan("a", ""), long, pairs(overKey, overValue))
}

// Each call of a group sees what those before it did, and has its own hit.
func TestP15_2_Group(t *testing.T) {
	s := with(shelf("a", "1", "b", "2"), "x")
	is(t, s, group(put("a", "9")), with(shelf("a", "9", "b", "2"), "x"), hits(true))
	is(t, s, group(put("c", "9")), with(shelf("a", "1", "b", "2", "c", "9"), "x"), hits(false))
	is(t, s, group(del("a")), with(shelf("b", "2"), "x"), hits(true))
	is(t, s, group(del("c")), s, hits(false))
	is(t, s, group(enq("y")), with(s, "x", "y"), hits(false))
	is(t, s, group(enq("y"), enq("x"), enq("z")), with(s, "x", "y", "x", "z"), hits(false, false, false))
	is(t, s, group(del("b"), put("a", "9")), with(shelf("a", "9"), "x"), hits(true, true))
	is(t, s, group(put("c", "9"), del("d"), put("b", "8")), with(shelf("a", "1", "b", "8", "c", "9"), "x"), hits(false, false, true))
	is(t, s, group(del("b"), enq("b"), put("c", "9")), with(shelf("a", "1", "c", "9"), "x", "b"), hits(true, false, false))
	is(t, s, group(del("c"), del("a"), del("b")), queue("x"), hits(false, true, true))
	is(t, api.Shelf{}, group(put("b", "1"), put("a", "2"), put("c", "3")), shelf("a", "2", "b", "1", "c", "3"), hits(false, false, false))
	// A store whose keys don't ascend tells where the second put goes: before what the first one put.
	is(t, shelf("z", "0"), group(put("y", "1"), put("x", "2")), shelf("x", "2", "y", "1", "z", "0"), hits(false, false))
	is(t, shelf("m", "0", "a", "0"), group(put("b", "1"), put("aa", "2"), put("n", "3")), shelf("aa", "2", "b", "1", "m", "0", "a", "0", "n", "3"), hits(false, false, false))
	is(t, shelf("d", "0", "a", "0"), group(del("d"), put("c", "1")), shelf("a", "0", "c", "1"), hits(true, false))
}

func TestP15_2_Sync(t *testing.T) {
	for _, s := range []api.Shelf{{}, shelf("a", "1"), queue("x"), with(shelf("b", "1", "a", "2"), "x", "y")} {
		is(t, s, syncCall(), s, api.Answer{})
		is(t, s, api.Call{Kind: api.CallSync, Key: "a", Value: "9", To: "b", Group: []api.Call{del("a")}}, s, api.Answer{})
	}
}

// Fields that are not mentioned for a kind change neither the store nor the answer.
func TestP15_2_OtherFields(t *testing.T) {
	s := with(shelf("a", "1", "b", "2"), "x")
	strange := api.Call{Key: "b", Value: "9", To: "a", Group: []api.Call{del("a"), enq("z")}}
	for _, c := range []api.Call{get("a"), put("a", "3"), put("c", "3"), del("a"), enq("y"), deq(), scan("a", "b"), scan("b", ""), group(put("a", "3"), enq("y")), syncCall()} {
		filled := c
		if filled.Key == "" && c.Kind != api.CallScan {
			filled.Key = strange.Key
		}
		if filled.Value == "" && c.Kind != api.CallPut && c.Kind != api.CallEnq {
			filled.Value = strange.Value
		}
		if filled.To == "" && c.Kind != api.CallScan {
			filled.To = strange.To
		}
		if filled.Group == nil {
			filled.Group = strange.Group
		}
		n, a := applies(t, s, c)
		is(t, s, filled, n, a)
	}
}

// calls are calls of each kind, valid or not, about these keys and about two values.
func calls(keys ...string) []api.Call {
	all := []api.Call{{}, {Kind: 9, Key: "a"}, {Kind: -1}, get(""), put("a", overValue), enq(overValue), group(), deq(), syncCall(), enq("x"), enq("")}
	for _, a := range keys {
		all = append(all, get(a), put(a, "new"), put(a, ""), del(a), scan(a, ""), scan("", a))
		for _, b := range keys {
			all = append(all, scan(a, b), group(put(a, "one"), del(b), enq("y")), group(del(a), put(b, "two")), group(put(a, "one"), put(b, "two")), group(del(a), enq("y"), del(b)))
		}
	}
	return all
}

// Every store of up to four pairs of three keys, in order or not, with queues of several lengths, and each of many calls.
func TestP15_2_EachStoreAndCall(t *testing.T) {
	all := calls("a", "aa", "b", "0", "c")
	rows([]string{"a", "aa", "b"}, 4, func(keys []string) {
		s := keyed(keys...)
		for _, values := range [][]string{nil, {"q"}, {"q", ""}, {"", "q", "q"}} {
			for _, c := range all {
				applies(t, with(s, values...), c)
			}
		}
	})
}

// Keys and values of any bytes, each with each other one.
func TestP15_2_OddKeys(t *testing.T) {
	for _, a := range odd() {
		for _, b := range odd() {
			s := with(shelf(a, b), a, b)
			for _, c := range []api.Call{get(b), put(b, a), del(b), enq(b), deq(), scan(a, b), scan(b, a), scan(b, ""), scan("", b), group(put(b, a), enq(a)), group(del(b), put(a, b))} {
				n, _ := applies(t, s, c)
				if !May(n) {
					t.Fatalf("%s makes %s of %s", tellCall(c), tellShelf(n), tellShelf(s))
				}
			}
		}
	}
	// All of them in one store, in whatever order they come, are in the order of their bytes.
	keys := odd()
	want := slices.Clone(keys)
	slices.SortFunc(want, func(a, b string) int { return bytes.Compare([]byte(a), []byte(b)) })
	for turn := range keys {
		var s api.Shelf
		for i := range keys {
			key := keys[(i+turn)%len(keys)]
			s, _ = applies(t, s, put(key, "of "+key))
		}
		for i, key := range want {
			if !May(s) || len(s.Pairs) != len(want) || s.Pairs[i] != (api.Pair{Key: key, Value: "of " + key}) {
				t.Fatalf("turn %d: pair %d of %s is not %q", turn, i, tellShelf(s), key)
			}
		}
	}
}

// dice are numbers that look random and are the same in every run.
type dice uint32

func (d *dice) upTo(n int) int {
	*d = *d*1664525 + 1013904223
	// The upper bits, since the lower ones come again soon.
	return int(uint64(*d) * uint64(n) >> 32)
}

func (d *dice) of(texts []string) string { return texts[d.upTo(len(texts))] }

// call returns a call of any kind, seldom one that is not valid.
func (d *dice) call(keys []string) api.Call {
	c := api.Call{Kind: 1 + d.upTo(8), Key: d.of(keys), Value: fmt.Sprint("v", d.upTo(100))}
	switch d.upTo(40) {
	case 0:
		c.Key = ""
	case 1:
		c.Key = overKey
	case 2:
		c.Value = overValue
	case 3:
		c.Kind = noKinds()[d.upTo(len(noKinds()))]
	}
	if d.upTo(2) == 0 {
		c.To = d.of(keys)
	}
	if c.Kind == api.CallGroup {
		for range 1 + d.upTo(3) {
			c.Group = append(c.Group, api.Call{Kind: 2 + d.upTo(3), Key: d.of(keys), Value: fmt.Sprint("g", d.upTo(100))})
		}
	}
	return c
}

// Long rows of calls, the store that each one leaves being that of the next one.
func TestP15_2_LongRows(t *testing.T) {
	count := map[api.Errno]int{}
	most := 0
	for seed := range 60 {
		d := dice(seed)
		var s api.Shelf
		if seed%4 == 0 {
			s = with(keyed("k", "a", "k", "\xff", "a", "b"), "x", "", "x")
		}
		for range 300 {
			var a api.Answer
			s, a = applies(t, s, d.call(odd()))
			count[a.Code]++
			most = max(most, len(s.Pairs))
			if seed%4 != 0 && !May(s) {
				t.Fatalf("the keys of %s do not ascend", tellShelf(s))
			}
		}
	}
	if count[api.OK] < 10000 || count[api.ErrArg] < 100 || count[api.ErrTooBig] < 100 || len(count) != 3 || most < 10 {
		t.Errorf("so many calls of each code: %v, and at most %d pairs", count, most)
	}
}

// There is an effect for each kind of call and for nothing else, and who writes over what is handed out changes it for nobody else.
func TestP15_2_CallEffects(t *testing.T) {
	effects := callEffects()
	for kind := 1; kind <= 8; kind++ {
		if effects[kind] == nil {
			t.Errorf("no effect of kind %d", kind)
		}
	}
	if len(effects) != 8 {
		t.Errorf("%d effects", len(effects))
	}
	clear(effects)
	if len(callEffects()) != 8 {
		t.Error("the effects are gone")
	}
}

func TestP15_3_Do(t *testing.T) {
	s := with(shelf("b", "1", "d", "2"), "x", "y")
	for _, x := range []struct {
		e    api.Effect
		want api.Shelf
	}{
		{effect(api.EffSet, "a", "9"), with(shelf("a", "9", "b", "1", "d", "2"), "x", "y")},
		{effect(api.EffSet, "b", "9"), with(shelf("b", "9", "d", "2"), "x", "y")},
		{effect(api.EffSet, "c", "9"), with(shelf("b", "1", "c", "9", "d", "2"), "x", "y")},
		{effect(api.EffSet, "e"), with(shelf("b", "1", "d", "2", "e", ""), "x", "y")},
		{effect(api.EffDrop, "b", "9"), with(shelf("d", "2"), "x", "y")},
		{effect(api.EffDrop, "d"), with(shelf("b", "1"), "x", "y")},
		{effect(api.EffDrop, "c"), s},
		{effect(api.EffPush, "b", "z"), with(s, "x", "y", "z")},
		{effect(api.EffPush), with(s, "x", "y", "")},
		{effect(api.EffPop, "b", "y"), with(s, "y")},
	} {
		if n := does(t, s, x.e); !sameShelf(n, x.want) {
			t.Errorf("Do(%s) = %s, want %s", tellEffects(x.e), tellShelf(n), tellShelf(x.want))
		}
	}
}

// An effect of no kind leaves the store as it was, and so does EffPop of an empty queue.
func TestP15_3_DoNothing(t *testing.T) {
	for _, s := range []api.Shelf{{}, shelf("a", "1"), queue("x"), with(shelf("b", "1", "a", "2"), "x", "y")} {
		for _, kind := range append(noKinds(), 5, 6, 7, 8, 1<<8+1, 1<<32+3) {
			if n := does(t, s, effect(kind, "a", "9")); !sameShelf(n, s) {
				t.Errorf("Do of kind %d makes %s of %s", kind, tellShelf(n), tellShelf(s))
			}
		}
	}
	for _, s := range []api.Shelf{{}, shelf("a", "1"), {Queue: []string{}}} {
		if n := does(t, s, effect(api.EffPop)); !sameShelf(n, s) {
			t.Errorf("EffPop makes %s of %s", tellShelf(n), tellShelf(s))
		}
	}
}

// An effect is not asked whether a call could bring it: its key may be empty, or too long, and its value too. Its numbers count for nothing.
func TestP15_3_DoAnyKey(t *testing.T) {
	s := shelf("a", "1")
	for _, x := range []struct {
		e    api.Effect
		want api.Shelf
	}{
		{effect(api.EffSet, "", "0"), shelf("", "0", "a", "1")},
		{effect(api.EffSet, overKey, overValue), shelf("a", "1", overKey, overValue)},
		{effect(api.EffDrop, ""), s},
		{effect(api.EffPush, "", overValue), with(s, overValue)},
		{api.Effect{Kind: api.EffSet, Key: "a", Value: "2", ID: math.MaxUint64, Ver: math.MaxUint64, Epoch: math.MaxUint64, Group: math.MinInt}, shelf("a", "2")},
		{api.Effect{Kind: api.EffDrop, Key: "a", ID: 1, Ver: 2, Epoch: 3, Group: -1}, api.Shelf{}},
	} {
		if n := does(t, s, x.e); !sameShelf(n, x.want) {
			t.Errorf("Do(%s) = %s, want %s", tellEffects(x.e), tellShelf(n), tellShelf(x.want))
		}
	}
	if n := does(t, shelf("", "0", "a", "1", "", "2"), effect(api.EffDrop, "")); !sameShelf(n, s) {
		t.Errorf("EffDrop of the empty key leaves %s", tellShelf(n))
	}
}

// Every store of up to four pairs of three keys, in order or not, and effects of each kind; a set is what a put is, a drop what a del is.
func TestP15_3_DoOfEachStore(t *testing.T) {
	rows([]string{"a", "aa", "b"}, 4, func(keys []string) {
		for _, values := range [][]string{nil, {"q"}, {"", "q", "q"}} {
			s := with(keyed(keys...), values...)
			for _, key := range []string{"a", "aa", "b", "0", "c"} {
				for _, pair := range []struct {
					e api.Effect
					c api.Call
				}{
					{effect(api.EffSet, key, "new"), put(key, "new")}, {effect(api.EffDrop, key, "new"), del(key)},
					{effect(api.EffPush, key, "new"), enq("new")}, {effect(api.EffPop, key, "new"), deq()},
				} {
					n := does(t, s, pair.e)
					if want, _ := Apply(s, pair.c); !sameShelf(n, want) {
						t.Fatalf("Do(%s, %s) = %s, want %s", tellShelf(s), tellEffects(pair.e), tellShelf(n), tellShelf(want))
					}
				}
			}
		}
	})
}

// in returns the effect e in this epoch.
func in(epoch uint64, e api.Effect) api.Effect {
	e.Epoch = epoch
	return e
}

func TestP15_3_Replay(t *testing.T) {
	l := []api.Effect{
		in(1, effect(api.EffSet, "b", "1")), in(1, effect(api.EffPush, "", "x")), in(1, effect(api.EffSet, "a", "2")),
		in(2, effect(api.EffDrop, "b")), in(2, effect(api.EffPush, "", "y")), in(2, effect(api.EffSet, "a", "3")), in(2, effect(9, "a", "9")),
		in(4, effect(api.EffPop)), in(4, effect(api.EffSet, "b", "4")), in(4, effect(api.EffPop)), in(4, effect(api.EffPop)), in(4, effect(api.EffPush, "", "z")),
	}
	for upto, want := range map[uint64]api.Shelf{
		0: {}, 1: with(shelf("a", "2", "b", "1"), "x"), 2: with(shelf("a", "3"), "x", "y"), 3: with(shelf("a", "3"), "x", "y"),
		4: with(shelf("a", "3", "b", "4"), "z"), 5: with(shelf("a", "3", "b", "4"), "z"), math.MaxUint64: with(shelf("a", "3", "b", "4"), "z"),
	} {
		if s := replays(t, l, upto); !sameShelf(s, want) {
			t.Errorf("Replay up to %d = %s, want %s", upto, tellShelf(s), tellShelf(want))
		}
	}
	for _, upto := range []uint64{0, 1, math.MaxUint64} {
		for _, none := range [][]api.Effect{nil, {}} {
			if s := replays(t, none, upto); !sameShelf(s, api.Shelf{}) {
				t.Errorf("Replay of no effects up to %d = %s", upto, tellShelf(s))
			}
		}
	}
}

// The effects come in the order of the list, whatever their epochs, their versions and their groups say.
func TestP15_3_ReplayInOrder(t *testing.T) {
	l := []api.Effect{
		{Kind: api.EffSet, Key: "a", Value: "1", Epoch: 3, Ver: 9, Group: 9}, {Kind: api.EffSet, Key: "a", Value: "2", Epoch: 1, Ver: 5, Group: 1},
		{Kind: api.EffPush, Value: "x", Epoch: 2, Ver: 8}, {Kind: api.EffPush, Value: "y", Epoch: 1, Ver: 1}, {Kind: api.EffPop, Epoch: 1, Ver: 2},
		{Kind: api.EffDrop, Key: "b", Epoch: 1}, {Kind: api.EffSet, Key: "b", Value: "3", Epoch: 0}, {Kind: api.EffDrop, Key: "b", Epoch: 5},
	}
	for upto, want := range map[uint64]api.Shelf{0: shelf("b", "3"), 1: shelf("a", "2", "b", "3"), 2: with(shelf("a", "2", "b", "3"), "y"), 3: with(shelf("a", "2", "b", "3"), "y"), 5: with(shelf("a", "2"), "y")} {
		if s := replays(t, l, upto); !sameShelf(s, want) {
			t.Errorf("Replay up to %d = %s, want %s", upto, tellShelf(s), tellShelf(want))
		}
	}
	// Epochs at the ends of their range are numbers without a sign.
	for _, upto := range []uint64{0, 1, 1<<61 - 1, 1 << 61, 1<<63 - 1, 1 << 63, 1<<63 + 1, math.MaxUint64 - 1, math.MaxUint64} {
		var want []string
		var l []api.Effect
		for _, epoch := range []uint64{math.MaxUint64, 1 << 63, 1<<63 - 1, 1 << 61, 1, 0, upto, upto - 1, upto + 1} {
			l = append(l, in(epoch, effect(api.EffPush, "", fmt.Sprint(epoch))))
			if epoch <= upto {
				want = append(want, fmt.Sprint(epoch))
			}
		}
		if s := replays(t, l, upto); !sameShelf(s, queue(want...)) {
			t.Errorf("Replay up to %d = %s, want %s", upto, tellShelf(s), tellTexts(want))
		}
	}
}

// A pop of an empty queue takes nothing that comes later.
func TestP15_3_ReplayPopOfEmpty(t *testing.T) {
	pop, push := in(1, effect(api.EffPop)), in(1, effect(api.EffPush, "", "x"))
	for before := range 4 {
		l := slices.Repeat([]api.Effect{pop}, before)
		l = append(l, push, pop, pop, push, push, pop)
		if s := replays(t, l, 1); !sameShelf(s, queue("x")) {
			t.Errorf("Replay of %d pops and others = %s", before, tellShelf(s))
		}
	}
}

// effect returns an effect of any kind, seldom of none.
func (d *dice) effect(keys []string) api.Effect {
	e := api.Effect{Kind: 1 + d.upTo(4), Key: d.of(keys), Value: fmt.Sprint(d.upTo(1000)), ID: uint64(d.upTo(9)), Ver: uint64(d.upTo(9)), Epoch: uint64(d.upTo(6)), Group: d.upTo(9)}
	switch d.upTo(30) {
	case 0:
		e.Kind = noKinds()[d.upTo(len(noKinds()))]
	case 1:
		e.Key = ""
	case 2:
		e.Key, e.Value = overKey, overValue
	}
	return e
}

// Long rows of effects of several epochs, held against the model, and against Do one by one.
func TestP15_3_ReplayLongRows(t *testing.T) {
	for seed := range 40 {
		d := dice(seed)
		var l []api.Effect
		for range 400 {
			l = append(l, d.effect(odd()))
		}
		for upto := range uint64(7) {
			var s api.Shelf
			for _, e := range l {
				if e.Epoch <= upto {
					s = Do(s, e)
				}
			}
			if n := replays(t, l, upto); !sameShelf(n, s) || !May(n) {
				t.Fatalf("seed %d: Replay up to %d = %s, want %s", seed, upto, tellShelf(n), tellShelf(s))
			}
			for n := range 20 {
				replays(t, l[:n], upto)
			}
		}
	}
}

func TestP15_3_Begin(t *testing.T) {
	everything := api.Call{Key: overKey, Value: overValue, To: longValue, Group: []api.Call{{Kind: 2, Key: "a", Value: "b", To: "c", Group: []api.Call{get("x")}}, {}, group(enq("y"), group())}}
	for _, kind := range append(noKinds(), 1, 2, 3, 4, 5, 6, 7, 8) {
		begins(t, api.Call{Kind: kind})
		c := everything
		c.Kind = kind
		begins(t, c)
	}
	for _, c := range append(calls(odd()...), api.Call{Group: []api.Call{}}) {
		begins(t, c)
	}
}

// Two groups of one frame share nothing, even if they were one.
func TestP15_3_BeginSharesNothing(t *testing.T) {
	inner := []api.Call{enq("x"), enq("y")}
	f := Begin(group(group(inner...), group(inner...), api.Call{Kind: api.CallGet, Group: inner}))
	fill(f.Call.Group[0].Group, strangeCall)
	for i := 1; i < 3; i++ {
		if !sameCall(group(f.Call.Group[i].Group...), group(enq("x"), enq("y"))) {
			t.Errorf("group %d is now %s", i, tellCall(f.Call.Group[i]))
		}
		fill(f.Call.Group[i].Group, strangeCall)
	}
	if !sameCall(group(inner...), group(enq("x"), enq("y"))) {
		t.Errorf("the group that was handed in is now %s", tellCall(group(inner...)))
	}
}

// Groups in groups, as deep as anything may be.
func TestP15_3_BeginDeep(t *testing.T) {
	c := put("a", "1")
	for range 1 << 16 {
		c = group(c)
	}
	good(t, group(put("a", "1")), api.OK)
	if e := Good(c); e != api.ErrArg {
		t.Errorf("Good = %d", e)
	}
	f := Begin(c)
	n, a := Apply(shelf("a", "2"), c)
	if !sameShelf(n, shelf("a", "2")) || !sameAnswer(a, api.Answer{Code: api.ErrArg}) {
		t.Errorf("Apply = %s, %s", tellShelf(n), tellAnswer(a))
	}
	got, depth := f.Call, 0
	for len(got.Group) == 1 {
		got, depth = got.Group[0], depth+1
	}
	if !sameCall(got, put("a", "1")) || depth != 1<<16 {
		t.Errorf("at the depth %d there is %s", depth, tellCall(got))
	}
}

// Stores, groups and rows of effects that are greater than any device's end in a time that their sizes explain.
func TestP15_Great(t *testing.T) {
	const many = 100000
	var s api.Shelf
	var l []api.Effect
	for i := range many {
		key := fmt.Sprintf("%06d", i*7919%many)
		s.Pairs = append(s.Pairs, api.Pair{Key: fmt.Sprintf("%06d", i), Value: fmt.Sprint("of ", i)})
		s.Queue = append(s.Queue, key)
		l = append(l, effect(api.EffSet, key, "of "+strings.TrimLeft(key[:5], "0")+key[5:]), effect(api.EffPush, "", "gone"), effect(api.EffPush, "", key), effect(api.EffPop))
	}
	if !May(s) {
		t.Fatal("the keys do not ascend")
	}
	// Of two that are pushed one is popped: half of them are left, the later half.
	got := Replay(l, 0)
	if !slices.Equal(got.Pairs, s.Pairs) || len(got.Queue) != many || got.Queue[many-1] != s.Queue[many-1] || got.Queue[many-2] != "gone" {
		t.Errorf("Replay of %d effects has %d pairs and %d that wait", len(l), len(got.Pairs), len(got.Queue))
	}
	n, a := Apply(s, scan("", "050000"))
	if !slices.Equal(a.Pairs, s.Pairs[:many/2]) || !sameShelf(n, s) {
		t.Errorf("a scan of a great store has %d pairs", len(a.Pairs))
	}
	for i := range 50 {
		key := fmt.Sprintf("%06d", i)
		n, a = Apply(n, group(del(key), put(key+" ", "new"), enq(key)))
		if !slices.Equal(a.Hits, []bool{true, false, false}) || !May(n) || n.Pairs[i].Key != key+" " || n.Queue[len(n.Queue)-1] != key {
			t.Fatalf("a group in a great store: %s", tellAnswer(a))
		}
	}
	n, a = Apply(n, deq())
	if a.Value != s.Queue[0] || len(n.Queue) != many+49 || n.Queue[0] != s.Queue[1] {
		t.Errorf("a deq of a great store: %s", tellAnswer(a))
	}
	if _, ok := Get(n, "zz"); ok {
		t.Error("a key that is not there is found")
	}
}

// The same store, calls and effects are handed to several goroutines at once: each is answered as if it were alone.
func TestP15_AtOnce(t *testing.T) {
	s := with(keyed("b", "a", "d", "b"), "x", "y")
	all := calls("a", "b", "c")
	l := []api.Effect{effect(api.EffSet, "a", "1"), effect(api.EffPush, "", "x"), effect(api.EffSet, "0", "2"), effect(api.EffDrop, "a"), effect(api.EffPop)}
	var wait sync.WaitGroup
	for range 8 {
		wait.Go(func() {
			for _, c := range all {
				n, a := Apply(s, c)
				wantS, wantA := modelApply(s, c)
				if !sameShelf(n, wantS) || !sameAnswer(a, wantA) || Good(c) != modelGood(c) || !sameCall(Begin(c).Call, c) {
					t.Errorf("Apply(%s) = %s, %s, want %s, %s", tellCall(c), tellShelf(n), tellAnswer(a), tellShelf(wantS), tellAnswer(wantA))
				}
				fillShelf(n)
				fill(a.Pairs, strangePair)
			}
			if n := Replay(l, 0); !sameShelf(n, shelf("0", "2")) {
				t.Errorf("Replay = %s", tellShelf(n))
			}
			if value, ok := Get(s, "b"); value != "value 0" || !ok || May(s) {
				t.Errorf("Get = %q, %v", value, ok)
			}
		})
	}
	wait.Wait()
}
