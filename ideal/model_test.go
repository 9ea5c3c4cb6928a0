package ideal

import (
	"bytes"
	"fmt"
	"reflect"
	"slices"
	"strings"
	"testing"

	"fusee/api"
)

// faults are all errors of a call, in any order, by the rows of the chapter's table and the words of its P15.1. The numbers are those of the document.
func faults(c api.Call) []api.Errno {
	var all []api.Errno
	when := func(is bool, e api.Errno) {
		if is {
			all = append(all, e)
		}
	}
	switch c.Kind {
	case api.CallGet, api.CallDel:
		when(c.Key == "", 1)
		when(len(c.Key) > 16, 5)
	case api.CallPut:
		when(c.Key == "", 1)
		when(len(c.Key) > 16, 5)
		when(len(c.Value) > 400, 5)
	case api.CallEnq:
		when(len(c.Value) > 400, 5)
	case api.CallDeq, api.CallSync:
	case api.CallScan:
		when(len(c.Key) > 16, 5)
		when(len(c.To) > 16, 5)
	case api.CallGroup:
		when(len(c.Group) < 1, 1)
		when(len(c.Group) > 3, 1)
		for i, x := range c.Group {
			other := x.Kind != api.CallPut && x.Kind != api.CallDel && x.Kind != api.CallEnq
			when(other, 1)
			if !other {
				all = append(all, faults(x)...)
			}
			for _, y := range c.Group[:i] {
				when(x.Kind != api.CallEnq && y.Kind != api.CallEnq && x.Key == y.Key, 1)
			}
		}
	default:
		all = append(all, 1)
	}
	return all
}

// modelGood is the first of the faults: ErrArg ahead of ErrTooBig.
func modelGood(c api.Call) api.Errno {
	first := api.OK
	for _, e := range faults(c) {
		if first == api.OK || e < first {
			first = e
		}
	}
	return first
}

// modelGet goes through the pairs from the last one to the first one, so that the first one with the key is the one that stays.
func modelGet(s api.Shelf, key string) (string, bool) {
	value, found := "", false
	for i := len(s.Pairs) - 1; i >= 0; i-- {
		if s.Pairs[i].Key == key {
			value, found = s.Pairs[i].Value, true
		}
	}
	return value, found
}

// modelSet builds the list of pairs anew.
func modelSet(s api.Shelf, key, value string) api.Shelf {
	_, had := modelGet(s, key)
	after, done := api.Shelf{Queue: s.Queue}, false
	for _, p := range s.Pairs {
		if !done && had && p.Key == key {
			p.Value, done = value, true
		}
		if !done && !had && bytes.Compare([]byte(p.Key), []byte(key)) > 0 {
			after.Pairs, done = append(after.Pairs, api.Pair{Key: key, Value: value}), true
		}
		after.Pairs = append(after.Pairs, p)
	}
	if !done {
		after.Pairs = append(after.Pairs, api.Pair{Key: key, Value: value})
	}
	return after
}

// modelDrop builds the list of pairs anew.
func modelDrop(s api.Shelf, key string) api.Shelf {
	after := api.Shelf{Queue: s.Queue}
	for _, p := range s.Pairs {
		if p.Key != key {
			after.Pairs = append(after.Pairs, p)
		}
	}
	return after
}

// modelPush builds the queue anew.
func modelPush(s api.Shelf, value string) api.Shelf {
	after := api.Shelf{Pairs: s.Pairs}
	after.Queue = append(append(after.Queue, s.Queue...), value)
	return after
}

// modelPop builds the queue anew.
func modelPop(s api.Shelf) api.Shelf {
	after := api.Shelf{Pairs: s.Pairs}
	for i, value := range s.Queue {
		if i > 0 {
			after.Queue = append(after.Queue, value)
		}
	}
	return after
}

// modelApply is the chapter's words, one kind after the other.
func modelApply(s api.Shelf, c api.Call) (api.Shelf, api.Answer) {
	if e := modelGood(c); e != api.OK {
		return s, api.Answer{Code: e}
	}
	var a api.Answer
	switch c.Kind {
	case api.CallGet:
		a.Value, a.Found = modelGet(s, c.Key)
	case api.CallPut:
		_, a.Found = modelGet(s, c.Key)
		s = modelSet(s, c.Key, c.Value)
	case api.CallDel:
		_, a.Found = modelGet(s, c.Key)
		s = modelDrop(s, c.Key)
	case api.CallEnq:
		s = modelPush(s, c.Value)
	case api.CallDeq:
		for i, value := range s.Queue {
			if i == 0 {
				a.Found, a.Value = true, value
			}
		}
		s = modelPop(s)
	case api.CallScan:
		for _, p := range s.Pairs {
			low := bytes.Compare([]byte(p.Key), []byte(c.Key)) < 0
			high := len(c.To) > 0 && bytes.Compare([]byte(p.Key), []byte(c.To)) >= 0
			if !low && !high {
				a.Pairs = append(a.Pairs, p)
			}
		}
	case api.CallGroup:
		for _, x := range c.Group {
			var one api.Answer
			s, one = modelApply(s, x)
			a.Hits = append(a.Hits, one.Found)
		}
	}
	return s, a
}

// modelDo is the chapter's words.
func modelDo(s api.Shelf, e api.Effect) api.Shelf {
	switch e.Kind {
	case api.EffSet:
		return modelSet(s, e.Key, e.Value)
	case api.EffDrop:
		return modelDrop(s, e.Key)
	case api.EffPush:
		return modelPush(s, e.Value)
	case api.EffPop:
		return modelPop(s)
	}
	return s
}

// modelReplay is the chapter's words.
func modelReplay(l []api.Effect, upto uint64) api.Shelf {
	var s api.Shelf
	for _, e := range l {
		if e.Epoch <= upto {
			s = modelDo(s, e)
		}
	}
	return s
}

// sameShelf reports whether two stores are the same, a nil list being an empty one.
func sameShelf(a, b api.Shelf) bool {
	return slices.Equal(a.Pairs, b.Pairs) && slices.Equal(a.Queue, b.Queue)
}

// sameAnswer reports whether two answers are the same, a nil list being an empty one.
func sameAnswer(a, b api.Answer) bool {
	return a.Code == b.Code && a.Found == b.Found && a.Value == b.Value && a.Epoch == b.Epoch && slices.Equal(a.Pairs, b.Pairs) && slices.Equal(a.Hits, b.Hits)
}

// sameCall reports whether two calls are the same in all their fields, a nil list being an empty one.
func sameCall(a, b api.Call) bool {
	return a.Kind == b.Kind && a.Key == b.Key && a.Value == b.Value && a.To == b.To && slices.EqualFunc(a.Group, b.Group, sameCall)
}

// tellShelf writes a store for a message: of long texts and of long lists the beginning.
func tellShelf(s api.Shelf) string {
	return "[" + tellPairs(s.Pairs) + "] [" + tellTexts(s.Queue) + "]"
}

func tellPairs(l []api.Pair) string {
	var text strings.Builder
	for i, p := range l {
		if i == 12 {
			fmt.Fprintf(&text, "and %d more", len(l)-i)
			break
		}
		fmt.Fprintf(&text, "%.20q: %.20q, ", p.Key, p.Value)
	}
	return text.String()
}

func tellTexts(l []string) string {
	var text strings.Builder
	for i, x := range l {
		if i == 12 {
			fmt.Fprintf(&text, "and %d more", len(l)-i)
			break
		}
		fmt.Fprintf(&text, "%.20q, ", x)
	}
	return text.String()
}

// tellAnswer writes an answer for a message.
func tellAnswer(a api.Answer) string {
	return fmt.Sprintf("{%d %v %.20q [%s] %v %d}", a.Code, a.Found, a.Value, tellPairs(a.Pairs), a.Hits, a.Epoch)
}

// tellCall writes a call for a message.
func tellCall(c api.Call) string {
	var text strings.Builder
	fmt.Fprintf(&text, "{%d %.20q %.20q %.20q", c.Kind, c.Key, c.Value, c.To)
	for i, x := range c.Group {
		if i == 5 {
			fmt.Fprintf(&text, " and %d more", len(c.Group)-i)
			break
		}
		text.WriteString(" " + tellCall(x))
	}
	return text.String() + "}"
}

// tellEffects writes effects for a message: of long lists the beginning.
func tellEffects(l ...api.Effect) string {
	var text strings.Builder
	for i, e := range l {
		if i == 30 {
			fmt.Fprintf(&text, "and %d more", len(l)-i)
			break
		}
		fmt.Fprintf(&text, "{%d %.20q %.20q %d %d %d %d}", e.Kind, e.Key, e.Value, e.ID, e.Ver, e.Epoch, e.Group)
	}
	return text.String()
}

// roomy returns a copy of l with room behind it, in which x lies.
func roomy[T any](l []T, x T) []T {
	all := make([]T, len(l)+3)
	copy(all, l)
	for i := len(l); i < len(all); i++ {
		all[i] = x
	}
	return all[:len(l)]
}

// fill writes x over l and over the room behind it.
func fill[T any](l []T, x T) {
	l = l[:cap(l)]
	for i := range l {
		l[i] = x
	}
}

// What is written over lists, and lies behind them: no test has it in a store or in a call.
var (
	strangePair   = api.Pair{Key: "a strange key, and a long one", Value: "strange"}
	strangeText   = "a strange text"
	strangeCall   = api.Call{Kind: 99, Key: "strange", Value: "strange", To: "strange"}
	strangeEffect = api.Effect{Kind: api.EffSet, Key: "strange", Value: "strange"}
)

// roomyShelf returns a copy of s whose lists have room behind them.
func roomyShelf(s api.Shelf) api.Shelf {
	return api.Shelf{Pairs: roomy(s.Pairs, strangePair), Queue: roomy(s.Queue, strangeText)}
}

// roomyCall returns a copy of c whose groups, those in groups too, have room behind them.
func roomyCall(c api.Call) api.Call {
	c.Group = roomy(c.Group, strangeCall)
	for i := range c.Group {
		c.Group[i] = roomyCall(c.Group[i])
	}
	return c
}

// whole returns a store with all that lies behind its lists.
func whole(s api.Shelf) api.Shelf {
	return api.Shelf{Pairs: s.Pairs[:cap(s.Pairs)], Queue: s.Queue[:cap(s.Queue)]}
}

// wholeCall returns a call with all that lies behind its groups.
func wholeCall(c api.Call) api.Call {
	c.Group = slices.Clone(c.Group[:cap(c.Group)])
	for i := range c.Group {
		c.Group[i] = wholeCall(c.Group[i])
	}
	return c
}

// fillShelf writes over the lists of a store.
func fillShelf(s api.Shelf) {
	fill(s.Pairs, strangePair)
	fill(s.Queue, strangeText)
}

// fillCall writes over the groups of a call, those in groups first.
func fillCall(c api.Call) {
	for _, x := range c.Group {
		fillCall(x)
	}
	fill(c.Group, strangeCall)
}

// untouched fails the test if the store is not what a roomy copy of was is, the room behind its lists included.
func untouched(t *testing.T, s, was api.Shelf) {
	t.Helper()
	if want := whole(roomyShelf(was)); !sameShelf(whole(s), want) {
		t.Errorf("the store that was handed in is now %s, want %s", tellShelf(whole(s)), tellShelf(want))
	}
}

// untouchedCall fails the test if the call is not what a roomy copy of was is, the room behind its groups included.
func untouchedCall(t *testing.T, c, was api.Call) {
	t.Helper()
	if want := wholeCall(roomyCall(was)); !sameCall(wholeCall(c), want) {
		t.Errorf("the call that was handed in is now %s, want %s", tellCall(wholeCall(c)), tellCall(want))
	}
}

// applies returns what Apply says, having failed the test if it is not what the model says, if it is another thing when it is asked again, or if any memory is shared: of the arguments with the results, or of the results with one another.
func applies(t *testing.T, s api.Shelf, c api.Call) (api.Shelf, api.Answer) {
	t.Helper()
	wantS, wantA := modelApply(s, c)
	is := func(n api.Shelf, a api.Answer, when string) {
		t.Helper()
		if !sameShelf(n, wantS) || !sameAnswer(a, wantA) {
			t.Fatalf("Apply(%s, %s)%s = %s, %s, want %s, %s", tellShelf(s), tellCall(c), when, tellShelf(n), tellAnswer(a), tellShelf(wantS), tellAnswer(wantA))
		}
	}
	handS, handC := roomyShelf(s), roomyCall(c)
	n, a := Apply(handS, handC)
	is(n, a, "")
	again, answer := Apply(handS, handC)
	is(again, answer, ", asked again,")
	fill(a.Pairs, strangePair)
	fill(a.Hits, !slices.Contains(a.Hits, true))
	if !sameShelf(n, wantS) {
		t.Fatalf("Apply(%s, %s): writing over the answer made of the store %s", tellShelf(s), tellCall(c), tellShelf(n))
	}
	fillShelf(n)
	untouched(t, handS, s)
	untouchedCall(t, handC, c)
	is(again, answer, ", while another result is written over,")
	fillShelf(handS)
	fillCall(handC)
	is(again, answer, ", while what was handed in is written over,")
	return again, answer
}

// does returns what Do says, having asked of it what applies asks of Apply.
func does(t *testing.T, s api.Shelf, e api.Effect) api.Shelf {
	t.Helper()
	want := modelDo(s, e)
	hand := roomyShelf(s)
	n, again := Do(hand, e), Do(hand, e)
	if !sameShelf(n, want) || !sameShelf(again, want) {
		t.Fatalf("Do(%s, %s) = %s, asked again %s, want %s", tellShelf(s), tellEffects(e), tellShelf(n), tellShelf(again), tellShelf(want))
	}
	fillShelf(n)
	untouched(t, hand, s)
	fillShelf(hand)
	if !sameShelf(again, want) {
		t.Fatalf("Do(%s, %s) = %s, once other stores were written over, want %s", tellShelf(s), tellEffects(e), tellShelf(again), tellShelf(want))
	}
	return again
}

// replays returns what Replay says, having asked of it what applies asks of Apply.
func replays(t *testing.T, l []api.Effect, upto uint64) api.Shelf {
	t.Helper()
	want := modelReplay(l, upto)
	hand := roomy(l, strangeEffect)
	was := slices.Clone(hand[:cap(hand)])
	n, again := Replay(hand, upto), Replay(hand, upto)
	if !sameShelf(n, want) || !sameShelf(again, want) {
		t.Fatalf("Replay(%s, %d) = %s, asked again %s, want %s", tellEffects(l...), upto, tellShelf(n), tellShelf(again), tellShelf(want))
	}
	fillShelf(n)
	if !slices.Equal(hand[:cap(hand)], was) {
		t.Fatalf("Replay(%s, %d) made of the effects %s", tellEffects(l...), upto, tellEffects(hand...))
	}
	fill(hand, strangeEffect)
	if !sameShelf(again, want) {
		t.Fatalf("Replay(%s, %d) = %s, once other lists were written over, want %s", tellEffects(l...), upto, tellShelf(again), tellShelf(want))
	}
	return again
}

// begins returns what Begin says, having failed the test if it is not a new frame for the call c, if it is another one when it is asked again, or if memory is shared.
func begins(t *testing.T, c api.Call) api.Frame {
	t.Helper()
	is := func(f api.Frame, when string) {
		t.Helper()
		if !sameCall(f.Call, c) {
			t.Fatalf("Begin(%s)%s is for the call %s", tellCall(c), when, tellCall(f.Call))
		}
		f.Call = api.Call{}
		if len(f.Bytes) == 0 {
			f.Bytes = nil
		}
		if len(f.Parts) == 0 {
			f.Parts = nil
		}
		if len(f.Ans.Pairs) == 0 {
			f.Ans.Pairs = nil
		}
		if len(f.Ans.Hits) == 0 {
			f.Ans.Hits = nil
		}
		if want := (api.Frame{Phase: api.PhEnter, Line: -1}); !reflect.DeepEqual(f, want) {
			t.Fatalf("Begin(%s)%s = %+v but for its call, want %+v", tellCall(c), when, f, want)
		}
	}
	hand := roomyCall(c)
	f, again := Begin(hand), Begin(hand)
	is(f, "")
	is(again, ", asked again,")
	fillCall(f.Call)
	untouchedCall(t, hand, c)
	fillCall(hand)
	is(again, ", once other calls were written over,")
	return again
}
