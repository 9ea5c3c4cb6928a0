package tail_test

import (
	"math"
	"reflect"
	"slices"
	"strings"
	"testing"

	"fusee/api"
	"fusee/arena"
	"fusee/ideal"
	"fusee/tail"
)

// The longest texts that may be, and those of one byte more.
var (
	longKey   = strings.Repeat("k", 16)
	overKey   = strings.Repeat("k", 17)
	longValue = strings.Repeat("v", 400)
	overValue = strings.Repeat("v", 401)
)

func enq(value string) api.Call      { return api.Call{Kind: api.CallEnq, Value: value} }
func deq() api.Call                  { return api.Call{Kind: api.CallDeq} }
func get(key string) api.Call        { return api.Call{Kind: api.CallGet, Key: key} }
func put(key, value string) api.Call { return api.Call{Kind: api.CallPut, Key: key, Value: value} }
func del(key string) api.Call        { return api.Call{Kind: api.CallDel, Key: key} }

// keyed returns the call with fields that its kind has no use for.
func keyed(c api.Call) api.Call {
	c.Key, c.To, c.Group = overKey, overKey, []api.Call{put("a", "1"), {Kind: 9}}
	return c
}

// lengths returns how many bytes of a value need each class at least and at most.
func lengths() [4][2]int { return [4][2]int{{0, 28}, {29, 91}, {92, 217}, {218, 400}} }

// beside returns the lengths at which classes change and those of one byte beside them, with the class of each.
func beside() map[int]int {
	all := map[int]int{}
	for c, l := range lengths() {
		for _, n := range []int{l[0], l[0] + 1, l[1] - 1, l[1]} {
			all[n] = c
		}
	}
	return all
}

// text returns n bytes that are no text: all of the 256 come in it, and it does not repeat itself at any length of a line.
func text(n int, from byte) string {
	b := make([]byte, n)
	for i := range b {
		b[i] = byte(i*7) + byte(i/256) + from
	}
	return string(b)
}

// ints are numbers that are wrong nearly everywhere, and some of which would be right ones if upper bits were lost.
func ints() []int {
	return []int{-1, -2, -64, 4, 5, 8, 9, 63, 64, 255, 256, 257, 300, 1 << 16, 1<<16 + 2, 1 << 32, 1<<32 + 1, 1<<32 + 2, 1<<32 + 3, -1 << 32, 1 << 61, math.MaxInt, math.MaxInt - 1, math.MinInt, math.MinInt + 1}
}

// What is written over lists, and lies behind them: no test has it in a frame.
var (
	strangeCall = api.Call{Kind: 99, Key: "a strange key", Value: "strange"}
	strangePart = api.Part{Had: true, Line: -99, Class: -9}
	strangePair = api.Pair{Key: "a strange key", Value: "strange"}
)

// roomy returns a copy of l with room behind it, in which x lies.
func roomy[T any](l []T, x T) []T {
	all := make([]T, len(l)+3)
	for i := copy(all, l); i < len(all); i++ {
		all[i] = x
	}
	return all[:len(l)]
}

func roomyCall(c api.Call) api.Call {
	c.Group = roomy(c.Group, strangeCall)
	for i := range c.Group {
		c.Group[i] = roomyCall(c.Group[i])
	}
	return c
}

// roomyFrame returns a copy of f with room behind each list.
func roomyFrame(f api.Frame) api.Frame {
	f.Call = roomyCall(f.Call)
	f.Bytes = roomy(f.Bytes, 0xee)
	f.Parts = roomy(f.Parts, strangePart)
	f.Ans.Pairs = roomy(f.Ans.Pairs, strangePair)
	f.Ans.Hits = roomy(f.Ans.Hits, true)
	return f
}

// own returns a copy of l, and nil if it is empty.
func own[T any](l []T) []T {
	if len(l) == 0 {
		return nil
	}
	return slices.Clone(l)
}

func plainCall(c api.Call) api.Call {
	c.Group = own(c.Group)
	for i := range c.Group {
		c.Group[i] = plainCall(c.Group[i])
	}
	return c
}

// plain returns a copy of f, with nil for lists that are empty.
func plain(f api.Frame) api.Frame {
	f.Call = plainCall(f.Call)
	f.Bytes = own(f.Bytes)
	f.Parts = own(f.Parts)
	f.Ans.Pairs = own(f.Ans.Pairs)
	f.Ans.Hits = own(f.Ans.Hits)
	return f
}

func wholeCall(c api.Call) api.Call {
	c.Group = slices.Clone(c.Group[:cap(c.Group)])
	for i := range c.Group {
		c.Group[i] = wholeCall(c.Group[i])
	}
	return c
}

// whole returns a copy of f, with what lies behind each list as a part of the list.
func whole(f api.Frame) api.Frame {
	f.Call = wholeCall(f.Call)
	f.Bytes = f.Bytes[:cap(f.Bytes)]
	f.Parts = f.Parts[:cap(f.Parts)]
	f.Ans.Pairs = f.Ans.Pairs[:cap(f.Ans.Pairs)]
	f.Ans.Hits = f.Ans.Hits[:cap(f.Ans.Hits)]
	return plain(f)
}

// fill writes x over l and over the room behind it.
func fill[T any](l []T, x T) {
	l = l[:cap(l)]
	for i := range l {
		l[i] = x
	}
}

func spoilCalls(l []api.Call) {
	for _, c := range l {
		spoilCalls(c.Group)
	}
	fill(l, strangeCall)
}

// spoil writes over all lists of f.
func spoil(f api.Frame) {
	spoilCalls(f.Call.Group)
	fill(f.Bytes, 0xdd)
	fill(f.Parts, strangePart)
	fill(f.Ans.Pairs, strangePair)
	fill(f.Ans.Hits, true)
}

// same reports whether two frames are the same, a nil list being an empty one.
func same(f, g api.Frame) bool { return reflect.DeepEqual(plain(f), plain(g)) }

// step is Step. It fails the test if that changes what it is given, or if what it returns has memory with that together, and writes over both, so that nothing later may come of them.
func step(t *testing.T, a *arena.Arena, who int, f api.Frame) api.Frame {
	t.Helper()
	hand := roomyFrame(f)
	was := whole(hand)
	got := tail.Step(a, who, hand)
	if now := whole(hand); !reflect.DeepEqual(now, was) {
		t.Fatalf("R4: Step changed what it was given from %+v to %+v", was, now)
	}
	next := plain(got)
	spoil(hand)
	if !same(got, next) {
		t.Fatalf("R4: what Step returned changed with what it was given, from %+v to %+v", next, got)
	}
	spoil(got)
	return next
}

// set returns f changed.
func set(f api.Frame, change func(f *api.Frame)) api.Frame {
	f = plain(f)
	change(&f)
	return f
}

// begin returns the frame of a call.
func begin(c api.Call) api.Frame { return ideal.Begin(c) }

// in returns a frame of the call that is in the phase and whose other fields have values that none of the phases gives them.
func in(phase int, c api.Call) api.Frame {
	return api.Frame{
		Call: api.Call{Kind: c.Kind, Key: c.Key, Value: c.Value, To: "to", Group: []api.Call{{Kind: 7, Group: []api.Call{{Key: "x"}}}, {Key: "y"}}}, Phase: phase, Epoch: 77,
		Pos: "pos", Past: true, Level: 3, Had: true, Old: api.Link{Key: "old", ID: 71, Ver: 72, Line: 73, Class: 2}, Line: -1, Class: 9, Piece: 5, Bytes: []byte("bytes"), At: 6,
		Parts: []api.Part{{Had: true, Line: 4}, {Class: 2}}, Ans: api.Answer{Value: "value", Pairs: []api.Pair{{Key: "k", Value: "v"}}, Hits: []bool{false, true}, Epoch: 78},
	}
}

// inAll returns frames of the call in the phase: one that has just begun, and one whose fields are any.
func inAll(phase int, c api.Call) []api.Frame {
	return []api.Frame{set(begin(c), func(f *api.Frame) { f.Phase = phase }), in(phase, c)}
}
