package point_test

import (
	"reflect"
	"slices"
	"strings"
	"testing"

	"fusee/api"
	"fusee/arena"
	"fusee/class"
)

// The chapter's example, frame by frame.
func TestP17_1_Example(t *testing.T) {
	x := newPair(t, 10, 1)
	f := begin(put("a", "1"))
	f = x.becomes(0, f, set(f, func(f *api.Frame) { f.Phase, f.Epoch = api.PhFind, 1 }))
	f = x.becomes(0, f, set(f, func(f *api.Frame) { f.Phase = api.PhTake }))
	f = x.becomes(0, f, set(f, func(f *api.Frame) { f.Phase, f.Line = api.PhWrite, 2 }))
	f = x.becomes(0, f, set(f, func(f *api.Frame) { f.Phase = api.PhPublish }))
	f = x.becomes(0, f, set(f, func(f *api.Frame) { f.Phase, f.Line, f.Ans.Epoch = api.PhLeave, -1, 1 }))
	f = x.becomes(0, f, set(f, func(f *api.Frame) { f.Phase = api.PhDone }))
	x.becomes(0, f, f)
	if want := (api.Link{Key: "a", ID: 1, Ver: 1, Line: 2}); x.link("a") != want {
		t.Errorf("the link is %v, want %v", x.link("a"), want)
	}
}

// phasesOf are the phases that a call comes to: so many steps of each.
func phasesOf(steps ...[2]int) []int {
	var l []int
	for _, s := range steps {
		l = append(l, slices.Repeat([]int{s[0]}, s[1])...)
	}
	return l
}

// Calls one behind the other, with what they are answered and the phases that they come to.
func TestP17_1_CallsAlone(t *testing.T) {
	x := newPair(t, 34, 2)
	var (
		nothing  = phasesOf([2]int{api.PhFind, 1}, [2]int{api.PhLeave, 1}, [2]int{api.PhDone, 1})
		refused  = []int{api.PhDone}
		changing = func(lines int) []int {
			return phasesOf([2]int{api.PhFind, 1}, [2]int{api.PhTake, 1}, [2]int{api.PhWrite, lines}, [2]int{api.PhPublish, 1}, [2]int{api.PhLeave, 1}, [2]int{api.PhDone, 1})
		}
		reading = func(lines int) []int {
			return phasesOf([2]int{api.PhFind, 1}, [2]int{api.PhRead, lines}, [2]int{api.PhLeave, 1}, [2]int{api.PhDone, 1})
		}
		value = func(n int) string { return strings.Repeat("v", n) }
	)
	for _, c := range []struct {
		call   api.Call
		phases []int
		ans    api.Answer
	}{
		{get("a"), nothing, api.Answer{}},
		{del("a"), nothing, api.Answer{}},
		{put("a", "1"), changing(1), api.Answer{Epoch: 1}},
		{get("a"), reading(1), api.Answer{Found: true, Value: "1"}},
		{put("a", ""), changing(1), api.Answer{Found: true, Epoch: 1}},
		{get("a"), reading(1), api.Answer{Found: true}},
		{put("a", value(27)), changing(1), api.Answer{Found: true, Epoch: 1}},
		{put("a", value(28)), changing(2), api.Answer{Found: true, Epoch: 1}},
		{get("a"), reading(2), api.Answer{Found: true, Value: value(28)}},
		{put("a", value(90)), changing(2), api.Answer{Found: true, Epoch: 1}},
		{put("a", value(91)), changing(4), api.Answer{Found: true, Epoch: 1}},
		{get("a"), reading(4), api.Answer{Found: true, Value: value(91)}},
		{put("a", value(216)), changing(4), api.Answer{Found: true, Epoch: 1}},
		{del("a"), changing(1), api.Answer{Found: true, Epoch: 1}},
		{del("a"), nothing, api.Answer{}},
		{get("a"), nothing, api.Answer{}},
		{put("a", value(217)), changing(8), api.Answer{Epoch: 1}},
		{get("a"), reading(8), api.Answer{Found: true, Value: value(217)}},
		{get(""), refused, api.Answer{Code: api.ErrArg}},
		{put("a", overValue), refused, api.Answer{Code: api.ErrTooBig}},
		{del(overKey), refused, api.Answer{Code: api.ErrTooBig}},
	} {
		f, phases := x.end(1, begin(c.call))
		if !slices.Equal(phases, c.phases) || !reflect.DeepEqual(f.Ans, c.ans) || f.Line != -1 {
			t.Errorf("%+v came to %v and to %+v, want %v and %+v", c.call, phases, f, c.phases, c.ans)
		}
		if e, ok := x.a.Readers().Inside(1); ok {
			t.Errorf("behind %+v the thread is inside, with epoch %d", c.call, e)
		}
		x.private()
	}
}

// Keys and values with all kinds of bytes, of the least and of the greatest lengths, come back as they were put, and keys are told apart by all their bytes.
func TestP17_1_Texts(t *testing.T) {
	keys := []string{"a", "aa", "a\x00", "\x00", "\x00\x00", "\xff", "\xff\xfe", "\x80", "\xc3\x28", "é", "e\u0301", "A", " ", text(16, 0), text(16, 200), longKey, longKey[1:]}
	values := []string{"", "\x00", "\xff", "\x00\xff\x80", "é", "\xc3\x28", strings.Repeat("\x00", 400), strings.Repeat("\xff", 400), text(400, 9), text(399, 130), longValue, strings.Repeat("\x01", 64), strings.Repeat("\x02", 91)}
	x := newPair(t, 258, 1)
	for i, v := range values {
		want := map[string]string{}
		for j, k := range keys {
			other := values[(i+j)%len(values)]
			want[k] = other
			if f := x.does(put(k, other)); f.Ans.Found != (i > 0) {
				t.Errorf("put of %q: %+v", k, f.Ans)
			}
			if j%5 == 4 {
				x.round()
			}
		}
		for k, v := range want {
			if f := x.does(get(k)); !f.Ans.Found || f.Ans.Value != v {
				t.Errorf("get of %q: %+v, want %q", k, f.Ans, v)
			}
		}
		one := keys[i%len(keys)]
		if f := x.does(del(one), get(one), put(one, v), get(one)); f.Ans.Value != v {
			t.Errorf("get of %q: %+v, want %q", one, f.Ans, v)
		}
		x.round()
		x.round()
	}
}

// A key or a value of one byte more than may be is refused, and nothing happens.
func TestP17_2_TooBig(t *testing.T) {
	x := newPair(t, 18, 1)
	x.does(put(longKey, longValue))
	was := stateOf(x.a)
	for _, more := range []string{"k", "\x00", "\xff", "é"} {
		for _, c := range []api.Call{get(longKey + more), put(longKey+more, ""), put(longKey, longValue+more), put(longKey+more, longValue+more), del(longKey + more), put("a", strings.Repeat(more, 401))} {
			f, _ := x.end(0, begin(c))
			if want := set(begin(c), func(f *api.Frame) { f.Phase, f.Ans.Code = api.PhDone, api.ErrTooBig }); !same(f, want) {
				t.Errorf("a call of %d and %d bytes: %+v, want %+v", len(c.Key), len(c.Value), f, want)
			}
		}
	}
	if now := stateOf(x.a); !reflect.DeepEqual(now, was) {
		t.Errorf("the store is %+v, and was %+v", now, was)
	}
	if f := x.does(get(longKey)); f.Ans.Value != longValue {
		t.Errorf("%+v", f.Ans)
	}
}

// The document's example 8: all slabs are of another class.
func TestP17_2_NoSpace(t *testing.T) {
	for c, n := range []int{1, 28, 91, 217} {
		x := newPair(t, 26, 1)
		var keys []string
		for i := range 24 / class.Span(c) {
			keys = append(keys, string(rune('a'+i)))
			x.does(put(keys[i], text(n, byte(i))))
		}
		was, device := stateOf(x.a), memoryOf(x.a)
		for other, n := range []int{1, 28, 91, 217} {
			for _, key := range []string{"z", "a"} {
				f, phases := x.end(0, begin(put(key, text(n, 1))))
				if want := phases[:len(phases)-3]; f.Ans.Code != api.ErrNoSpace || f.Line != -1 || f.Class != other || !slices.Equal(phases, append(slices.Clone(want), api.PhTake, api.PhLeave, api.PhDone)) {
					t.Errorf("put of class %d in slabs of class %d: %v, %+v", other, c, phases, f)
				}
				if f.Ans.Found || f.Ans.Value != "" || f.Ans.Epoch != 0 {
					t.Errorf("with ErrNoSpace came %+v", f.Ans)
				}
			}
		}
		if f, _ := x.end(0, begin(del("a"))); f.Ans.Code != api.ErrNoSpace {
			t.Errorf("a del without a block for its anti: %+v", f.Ans)
		}
		if f := x.does(del("z")); f.Ans.Found {
			t.Errorf("a del that needs no block: %+v", f.Ans)
		}
		if now := stateOf(x.a); !reflect.DeepEqual(now, was) || !reflect.DeepEqual(memoryOf(x.a), device) {
			t.Errorf("the store is %+v, and was %+v", now, was)
		}
		for i, key := range keys {
			if f := x.does(get(key)); f.Ans.Value != text(n, byte(i)) {
				t.Errorf("get of %q: %+v", key, f.Ans)
			}
		}
	}
}

// The document's example 4: two threads put the same key, and the second one's first try fails.
func TestP17_1_TwoPuts(t *testing.T) {
	x := newPair(t, 26, 2)
	f, g := begin(put("a", "1")), begin(put("a", "2"))
	for f.Phase != api.PhPublish {
		f, g = x.step(0, f), x.step(1, g)
	}
	f = x.step(0, f)
	line := g.Line
	g = x.becomes(1, g, set(g, func(f *api.Frame) { f.Phase = api.PhFind }))
	g = x.becomes(1, g, set(g, func(f *api.Frame) { f.Phase, f.Had, f.Old = api.PhPublish, true, x.link("a") }))
	g, _ = x.end(1, g)
	f, _ = x.end(0, f)
	if f.Ans.Found || !g.Ans.Found || x.link("a").Line != line || x.does(get("a")).Ans.Value != "2" {
		t.Errorf("%+v, %+v, %v", f.Ans, g.Ans, x.link("a"))
	}
	if n := x.a.Bag().Len(); n != 1 {
		t.Errorf("%d blocks are in limbo", n)
	}
	x.private()
}

// The document's example 5: a block that a get has found stays as it is till the get has left.
func TestP17_1_HeldByAReader(t *testing.T) {
	for _, n := range []int{1, 28, 91, 217} {
		for read := range class.Span(class.Need(n + 1)) {
			x := newPair(t, 130, 2)
			x.does(put("a", text(n, 3)))
			was := x.link("a")
			f := x.upTo(api.PhRead, 1, begin(get("a")))
			for range read {
				f = x.step(1, f)
			}
			x.does(del("a"))
			for i := range 10 {
				x.does(put("b", text(n, byte(i))))
				x.round()
			}
			if l := x.a.Bag().All(); len(l) == 0 || l[0].Line != was.Line {
				t.Errorf("in limbo there is %v, and the get reads at %d", l, was.Line)
			}
			f, _ = x.end(1, f)
			if f.Ans.Code != api.OK || !f.Ans.Found || f.Ans.Value != text(n, 3) {
				t.Errorf("a get of %d bytes behind a del: %+v", n, f.Ans)
			}
			x.round()
			x.round()
			x.round()
			if l := x.a.Pool().Taken(); len(l) != 1 {
				t.Errorf("allocated is %v", l)
			}
		}
	}
}

// The document's example 10: a key that is put again and again has one block in the end.
func TestP17_1_PutAgainAndAgain(t *testing.T) {
	x := newPair(t, 10, 1)
	for i := range 40 {
		f := x.does(put("a", text(i%28, 7)))
		if f.Ans.Found != (i > 0) || f.Ans.Epoch != uint64(i+1) {
			t.Errorf("put %d: %+v", i, f.Ans)
		}
		x.round()
	}
	x.round()
	if l := x.a.Pool().Taken(); len(l) != 1 || l[0].Line != x.link("a").Line {
		t.Errorf("allocated is %v", l)
	}
}

// every calls run once with each row of choices that there is, where choose(n) is a number from 0 to n-1.
func every(run func(choose func(n int) int)) {
	var row, of []int
	for {
		at := 0
		run(func(n int) int {
			if at == len(row) {
				row, of = append(row, 0), append(of, n)
			}
			at++
			return row[at-1]
		})
		for len(row) > 0 && row[len(row)-1] == of[len(row)-1]-1 {
			row, of = row[:len(row)-1], of[:len(row)-1]
		}
		if len(row) == 0 {
			return
		}
		row[len(row)-1]++
	}
}

// Every order of the steps of two calls of the same key, in some of which an epoch is closed on the way: each call ends, is answered as the abstract store at one of its steps says, and leaves nothing allocated that is not the store's.
func TestP17_2_EveryOrderOfTwoCalls(t *testing.T) {
	orders := 0
	for _, setup := range [][]api.Call{nil, {put("a", "0")}} {
		for i, first := range calls("a", "1") {
			for _, second := range calls("a", "2")[i:] {
				for _, closing := range []int{-1, 5} {
					every(func(choose func(n int) int) {
						a, _ := arena.New(10, 2)
						w := &watch{t: t}
						for _, c := range setup {
							w.end(a, 0, begin(c))
						}
						w.interleave(a, [2]api.Frame{begin(first), begin(second)}, choose, closing)
						orders++
					})
				}
			}
		}
	}
	if orders < 10000 {
		t.Errorf("there were %d orders only", orders)
	}
}

// interleave steps two frames to their ends, each time one that is chosen, and closes an epoch ahead of step number closing.
func (w *watch) interleave(a *arena.Arena, frames [2]api.Frame, choose func(n int) int, closing int) {
	w.t.Helper()
	for i := range 100 {
		if i == closing {
			closes(a)
		}
		var pending []int
		for who, f := range frames {
			if f.Phase != api.PhDone {
				pending = append(pending, who)
			}
		}
		if len(pending) == 0 {
			break
		}
		who := pending[choose(len(pending))]
		frames[who] = w.step(a, who, frames[who])
	}
	if r := a.Rooms(nil); len(r.Taken) != len(r.Live)+len(r.Limbo)+len(r.Antis) {
		w.t.Fatalf("allocated are %v, and linked, in limbo or antis are %v, %v, %v", r.Taken, r.Live, r.Limbo, r.Antis)
	}
	if _, some := a.Readers().Least(); some || frames[0].Phase+frames[1].Phase != 2*api.PhDone {
		w.t.Fatalf("in the end there is %+v", frames)
	}
}
