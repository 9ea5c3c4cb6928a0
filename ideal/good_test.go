package ideal

import (
	"math"
	"strings"
	"testing"

	"fusee/api"
)

// The longest texts that may be, and those of one byte more.
var (
	longKey   = strings.Repeat("k", 16)
	overKey   = strings.Repeat("k", 17)
	longValue = strings.Repeat("v", 400)
	overValue = strings.Repeat("v", 401)
)

func get(key string) api.Call        { return api.Call{Kind: api.CallGet, Key: key} }
func put(key, value string) api.Call { return api.Call{Kind: api.CallPut, Key: key, Value: value} }
func del(key string) api.Call        { return api.Call{Kind: api.CallDel, Key: key} }
func enq(value string) api.Call      { return api.Call{Kind: api.CallEnq, Value: value} }
func deq() api.Call                  { return api.Call{Kind: api.CallDeq} }
func scan(key, to string) api.Call   { return api.Call{Kind: api.CallScan, Key: key, To: to} }
func group(l ...api.Call) api.Call   { return api.Call{Kind: api.CallGroup, Group: l} }
func syncCall() api.Call             { return api.Call{Kind: api.CallSync} }

// noKinds are numbers that are no kind of a call, some of which would be one if upper bits were lost.
func noKinds() []int {
	return []int{0, -1, 9, -2, -8, 10, 15, 16, 17, 99, 255, 256, 257, 1<<8 + 2, 1<<16 + 1, 1<<32 + 1, 1<<32 + 7, 1<<61 + 2, -1<<32 + 5, math.MaxInt, math.MinInt, math.MinInt + 4}
}

// good fails the test if Good is not e, asked twice, or if it changes the call.
func good(t *testing.T, c api.Call, e api.Errno) {
	t.Helper()
	hand := roomyCall(c)
	for range 2 {
		if got := Good(hand); got != e {
			t.Errorf("Good(%s) = %d, want %d", tellCall(c), got, e)
		}
	}
	untouchedCall(t, hand, c)
}

// A valid call of each kind, and the least call of that kind that is not.
func TestP15_1_GoodOfEachKind(t *testing.T) {
	for _, c := range []api.Call{get("a"), put("a", "1"), put("a", ""), del("a"), enq("x"), enq(""), deq(), scan("", ""), scan("a", ""), scan("", "a"), scan("b", "a"), scan("a", "a"), group(put("a", "1")), syncCall()} {
		good(t, c, api.OK)
	}
	for kind := 1; kind <= 8; kind++ {
		want := []api.Errno{1, 1, 1, 0, 0, 0, 1, 0}[kind-1]
		good(t, api.Call{Kind: kind}, want)
	}
}

func TestP15_1_GoodOfNoKind(t *testing.T) {
	for _, kind := range noKinds() {
		good(t, api.Call{Kind: kind}, api.ErrArg)
		good(t, api.Call{Kind: kind, Key: "a", Value: "1", To: "b", Group: []api.Call{put("a", "1")}}, api.ErrArg)
		good(t, api.Call{Kind: kind, Key: overKey, Value: overValue, To: overKey}, api.ErrArg)
	}
}

// Each text that is asked, at its greatest length and at one byte more.
func TestP15_1_GoodLengths(t *testing.T) {
	for _, c := range []api.Call{get(longKey), put(longKey, ""), put("a", longValue), put(longKey, longValue), del(longKey), enq(longValue), scan(longKey, ""), scan("", longKey), scan(longKey, longKey), group(put(longKey, longValue), del(longKey[1:]), enq(longValue))} {
		good(t, c, api.OK)
	}
	for _, c := range []api.Call{get(overKey), put(overKey, ""), put("a", overValue), put(overKey, overValue), put(longKey, overValue), put(overKey, longValue), del(overKey), enq(overValue), scan(overKey, ""), scan("", overKey), scan(overKey, overKey), scan(longKey, overKey), scan(overKey, longKey), group(put(overKey, "")), group(put("a", overValue)), group(del(overKey)), group(enq(overValue))} {
		good(t, c, api.ErrTooBig)
	}
	// Lengths that would be short ones if their upper bits were lost.
	for _, n := range []int{256, 257, 512, 1 << 16, 1<<16 + 1, 1 << 20} {
		text := strings.Repeat("t", n)
		for _, c := range []api.Call{get(text), put(text, ""), del(text), scan(text, ""), scan("", text), group(del(text))} {
			good(t, c, api.ErrTooBig)
		}
		if n > 400 {
			good(t, put("a", text), api.ErrTooBig)
			good(t, enq(text), api.ErrTooBig)
			good(t, group(enq(text)), api.ErrTooBig)
		}
	}
}

// A length is a number of bytes, whatever they are.
func TestP15_1_GoodCountsBytes(t *testing.T) {
	for _, unit := range []string{"é", "\x00\x00", "\xff\xfe", "\xc3\x28", "\x80\x80"} {
		key, value := strings.Repeat(unit, 8), strings.Repeat(unit, 200)
		for _, c := range []api.Call{get(key), put(key, value), del(key), enq(value), scan(key, key), group(put(key, value), enq(value))} {
			good(t, c, api.OK)
		}
		for _, more := range []string{"k", "\x00", "\xff"} {
			for _, c := range []api.Call{get(key + more), put(key+more, value), put(key, value+more), del(key + more), enq(value + more), scan(key+more, key), scan(key, key+more), group(put(key+more, value)), group(enq(value + more))} {
				good(t, c, api.ErrTooBig)
			}
		}
		good(t, get(strings.Repeat(unit, 16)), api.ErrTooBig)
		good(t, enq(strings.Repeat(unit, 400)), api.ErrTooBig)
	}
	for _, key := range []string{"\x00", "\xff", " ", "\n"} {
		good(t, get(key), api.OK)
		good(t, del(key), api.OK)
		good(t, put(key, key), api.OK)
	}
}

// Fields that the table does not mention for a kind are ignored, whatever is in them.
func TestP15_1_GoodIgnoresOtherFields(t *testing.T) {
	bad := []api.Call{{Kind: -1}, get(overKey), enq(overValue), group()}
	texts := []string{"", "a", longKey, overKey, longValue, overValue}
	for _, x := range texts {
		for _, y := range texts {
			for _, l := range [][]api.Call{nil, bad, {put("a", "1")}} {
				for _, key := range []string{"a", longKey} {
					good(t, api.Call{Kind: api.CallGet, Key: key, Value: x, To: y, Group: l}, api.OK)
					good(t, api.Call{Kind: api.CallDel, Key: key, Value: x, To: y, Group: l}, api.OK)
					good(t, api.Call{Kind: api.CallPut, Key: key, Value: longValue, To: x, Group: l}, api.OK)
				}
				good(t, api.Call{Kind: api.CallEnq, Key: x, Value: longValue, To: y, Group: l}, api.OK)
				good(t, api.Call{Kind: api.CallDeq, Key: x, Value: y, To: y, Group: l}, api.OK)
				good(t, api.Call{Kind: api.CallSync, Key: x, Value: y, To: y, Group: l}, api.OK)
				good(t, api.Call{Kind: api.CallScan, Key: "b", To: "a", Value: x, Group: l}, api.OK)
			}
			one := []api.Call{{Kind: api.CallDel, Key: "a", Value: x, To: y, Group: bad}, {Kind: api.CallEnq, Key: x, To: y, Group: bad}, {Kind: api.CallPut, Key: "b", To: x, Group: bad}}
			good(t, api.Call{Kind: api.CallGroup, Key: x, Value: y, To: y, Group: one}, api.OK)
		}
	}
}

// ErrArg is told ahead of ErrTooBig, in a call and over all calls of a group.
func TestP15_1_GoodErrorsInOrder(t *testing.T) {
	for _, c := range []api.Call{
		put("", overValue),
		group(put("", overValue)),
		group(put(overKey, ""), put("", "")),
		group(put("", ""), put(overKey, "")),
		group(enq(overValue), enq(overValue), del("")),
		group(enq(overValue), put(overKey, overValue), deq()),
		group(put(overKey, ""), del(overKey)),
		group(put(overKey, overValue), enq(overValue), put(overKey, "")),
		group(enq(overValue), put("a", ""), del("a")),
		group(enq(overValue), enq(overValue), enq(overValue), enq(overValue)),
		group(get(overKey)),
		group(scan(overKey, overKey)),
		group(enq(overValue), api.Call{Kind: 9}),
		group(enq(overValue), group(enq("x"))),
	} {
		good(t, c, api.ErrArg)
	}
	for _, c := range []api.Call{
		group(put("a", ""), put(overKey, "")),
		group(put(overKey, ""), put("a", "")),
		group(put(overKey, ""), put(overKey+"k", "")),
		group(enq(""), enq(""), enq(overValue)),
		group(enq(overValue), del("a"), del("b")),
	} {
		good(t, c, api.ErrTooBig)
	}
}

func TestP15_1_GoodOfGroups(t *testing.T) {
	for _, c := range []api.Call{
		group(put("a", "1")), group(del("a")), group(enq("x")),
		group(put("a", "1"), del("b"), enq("x")), group(enq("x"), enq("x"), enq("x")), group(put("a", ""), put("b", ""), put("c", "")),
		// Keys that are the beginning of one another, or that are the same but for their letters' form, are others.
		group(put("a", ""), del("aa"), put("a\x00", "")), group(del("\x00"), del("\x00\x00"), del("\xff")), group(put("é", ""), put("e\u0301", "")), group(put("a", ""), del("A")),
		// The key of an enq is not looked at.
		group(put("a", ""), api.Call{Kind: api.CallEnq, Key: "a"}), group(api.Call{Kind: api.CallEnq, Key: "a"}, del("a")), group(api.Call{Kind: api.CallEnq, Key: "a"}, api.Call{Kind: api.CallEnq, Key: "a"}),
		// Neither are values held against each other, nor a value against a key.
		group(put("a", "b"), put("b", "b"), enq("b")),
	} {
		good(t, c, api.OK)
	}
	for _, c := range []api.Call{
		group(), {Kind: api.CallGroup, Group: []api.Call{}},
		group(put("a", ""), put("b", ""), put("c", ""), put("d", "")), group(enq(""), enq(""), enq(""), enq("")),
		group(get("a")), group(deq()), group(scan("", "")), group(syncCall()), group(group(put("a", ""))), group(group()), group(api.Call{}), group(api.Call{Kind: 9, Key: "a"}),
		group(put("a", ""), get("b")), group(put("a", ""), del("b"), syncCall()), group(scan("", ""), enq("x")), group(enq("x"), group(enq("y")), enq("z")),
		group(put("a", "1"), put("a", "2")), group(del("a"), del("a")), group(put("a", ""), del("a")), group(del("a"), put("a", "")),
		group(put("a", ""), put("b", ""), put("a", "")), group(put("b", ""), put("a", ""), del("a")), group(put("a", ""), enq("x"), del("a")), group(del("a"), del("a"), del("a")),
		group(put("", "")), group(del("")), group(enq("x"), del("")), group(put("a", ""), put("", ""), enq("")),
	} {
		good(t, c, api.ErrArg)
	}
	for _, kind := range noKinds() {
		good(t, group(api.Call{Kind: kind, Key: "a"}), api.ErrArg)
		good(t, group(put("a", ""), api.Call{Kind: kind, Key: "b"}), api.ErrArg)
	}
	for _, n := range []int{4, 5, 255, 256, 257, 1 << 16, 1<<16 + 1, 1<<16 + 3} {
		l := make([]api.Call, n)
		for i := range l {
			l[i] = enq("x")
		}
		good(t, group(l...), api.ErrArg)
	}
}

// Calls of every kind and of some that are none, with texts of the lengths that matter, held against the table.
func TestP15_1_GoodAgainstModel(t *testing.T) {
	groups := [][]api.Call{nil, {}, {put("a", "")}, {put("a", ""), del("a")}, {del(overKey)}, {enq(""), enq(""), enq(""), enq("")}}
	for _, kind := range append(noKinds(), 1, 2, 3, 4, 5, 6, 7, 8) {
		for _, key := range []int{0, 1, 15, 16, 17, 400, 401} {
			for _, value := range []int{0, 1, 16, 17, 399, 400, 401} {
				for _, to := range []int{0, 1, 16, 17, 401} {
					for _, l := range groups {
						c := api.Call{Kind: kind, Key: strings.Repeat("k", key), Value: strings.Repeat("v", value), To: strings.Repeat("t", to), Group: l}
						if e, want := Good(c), modelGood(c); e != want {
							t.Fatalf("Good(%s) with texts of %d, %d and %d bytes = %d, want %d", tellCall(c), key, value, to, e, want)
						}
					}
				}
			}
		}
	}
}

// Every group of up to four calls of these, held against the table.
func TestP15_1_GoodOfEachGroup(t *testing.T) {
	members := []api.Call{
		put("a", ""), put("b", overValue), put("", ""), put("", overValue), put(overKey, ""),
		del("a"), del("b"), del(""), del(overKey),
		enq(""), enq(overValue), {Kind: api.CallEnq, Key: "a"}, {Kind: api.CallEnq, Key: overKey},
		get("a"), get(""), deq(), scan("", overKey), syncCall(), group(), group(put("c", "")), {}, {Kind: 9},
	}
	count := map[api.Errno]int{}
	var all func(l []api.Call)
	all = func(l []api.Call) {
		c := group(l...)
		e := Good(c)
		if want := modelGood(c); e != want {
			t.Fatalf("Good(%s) = %d, want %d", tellCall(c), e, want)
		}
		count[e]++
		if len(l) == 4 {
			return
		}
		for _, x := range members {
			all(append(l[:len(l):len(l)], x))
		}
	}
	all(nil)
	if len(count) != 3 || count[api.OK] < 100 || count[api.ErrTooBig] < 500 {
		t.Errorf("so many groups of each error: %v", count)
	}
}
