package limbo

import (
	"fmt"
	"math"
	"slices"
	"sync"
	"testing"

	"fusee/api"
	"fusee/reader"
)

// readers returns new readers of four threads.
func readers(t *testing.T) *reader.Readers {
	t.Helper()
	r, e := reader.New(4)
	if r == nil || e != api.OK {
		t.Fatalf("readers: %d", e)
	}
	return r
}

// inside returns readers whose thread 2 is inside and has announced the epoch; of 0 nobody is inside.
func inside(t *testing.T, epoch uint64) *reader.Readers {
	t.Helper()
	r := readers(t)
	if epoch == 0 {
		return r
	}
	for r.Now() < epoch {
		r.Advance()
	}
	if got, e := r.Enter(2); got != epoch || e != api.OK {
		t.Fatalf("thread 2 announced %d (%d), want %d", got, e, epoch)
	}
	return r
}

// bag returns a bag with these entries.
func bag(t *testing.T, entries ...api.Entry) *Bag {
	t.Helper()
	b := New()
	for _, e := range entries {
		puts(t, b, e, api.OK)
	}
	return b
}

// puts fails the test if Put(e) does not return want.
func puts(t *testing.T, b *Bag, e api.Entry, want api.Errno) {
	t.Helper()
	if got := b.Put(e); got != want {
		t.Errorf("Put(%v) = %d, want %d", e, got, want)
	}
}

// holds fails the test if All and Len do not tell these entries.
func holds(t *testing.T, b *Bag, entries ...api.Entry) {
	t.Helper()
	if all, n := b.All(), b.Len(); !slices.Equal(all, entries) || n != len(entries) {
		t.Errorf("the bag holds %v, %d in all, want %v", all, n, entries)
	}
}

// ready fails the test if Ready does not return want, or removes something.
func ready(t *testing.T, b *Bag, r *reader.Readers, durable uint64, want api.Entry) {
	t.Helper()
	before := b.All()
	for range 2 {
		if e, ok := b.Ready(r, durable); e != want || !ok {
			t.Errorf("Ready(%d) = %v, %v, want %v", durable, e, ok, want)
		}
	}
	holds(t, b, before...)
}

// pops fails the test if Pop does not return want, or leaves other entries than these.
func pops(t *testing.T, b *Bag, r *reader.Readers, durable uint64, want api.Entry, left ...api.Entry) {
	t.Helper()
	if e, ok := b.Pop(r, durable); e != want || !ok {
		t.Errorf("Pop(%d) = %v, %v, want %v", durable, e, ok, want)
	}
	holds(t, b, left...)
}

// none fails the test if Ready or Pop returns anything, or removes something.
func none(t *testing.T, b *Bag, r *reader.Readers, durable uint64) {
	t.Helper()
	before := b.All()
	if e, ok := b.Ready(r, durable); e != (api.Entry{}) || ok {
		t.Errorf("Ready(%d) = %v, %v, want none", durable, e, ok)
	}
	if e, ok := b.Pop(r, durable); e != (api.Entry{}) || ok {
		t.Errorf("Pop(%d) = %v, %v, want none", durable, e, ok)
	}
	holds(t, b, before...)
}

// far are numbers that are out of every bound, some of which would not be if their upper bits were lost.
func far() []int {
	return []int{-3, -257, -258, 259, 512, 1 << 16, 1 << 31, 1<<31 + 2, 1 << 32, 1<<32 + 2, 1<<61 + 3, -1 << 31, -1<<32 + 2, math.MaxInt, math.MinInt, math.MinInt + 2}
}

// wrong returns entries each of which is wrong in one field.
func wrong() []api.Entry {
	var all []api.Entry
	for _, line := range append(far(), 1, 258, 0, -1, -2) {
		all = append(all, api.Entry{Line: line, Class: 1, R: 4, D: 5, Anti: 7})
	}
	for _, c := range append(far(), -1, 4, -2, 5, 8, 256, 257) {
		all = append(all, api.Entry{Line: 3, Class: c, R: 4, D: 5, Anti: 7})
	}
	for _, anti := range append(far(), -2, 258) {
		all = append(all, api.Entry{Line: 3, Class: 1, R: 4, D: 5, Anti: anti})
	}
	return all
}

func TestExamples(t *testing.T) {
	r := inside(t, 1)
	a, b := api.Entry{Line: 2, R: 1, D: 3, Anti: -1}, api.Entry{Line: 10, Class: 2, R: 2, D: 2, Anti: -1}
	l := bag(t, a, b)
	none(t, l, r, 3)
	r.Leave(2)
	ready(t, l, r, 2, b)
	pops(t, l, r, 3, a, b)
	pops(t, l, r, 3, b)
	holds(t, l)
}

func TestP10_1_New(t *testing.T) {
	b := New()
	if b == nil {
		t.Fatal("no bag")
	}
	holds(t, b)
	none(t, b, readers(t), math.MaxUint64)
	none(t, b, nil, math.MaxUint64)
}

// Every line, with each class and with Antis from the first to the last: nothing but the bounds of each is asked.
func TestP10_1_PutOfEveryLine(t *testing.T) {
	for c := range 4 {
		for _, anti := range []int{-1, 0, 1, 2, 256, 257} {
			b, want := New(), []api.Entry(nil)
			for line := 2; line <= 257; line++ {
				e := api.Entry{Line: line, Class: c, R: uint64(line), D: uint64(c), Anti: anti}
				puts(t, b, e, api.OK)
				want = append(want, e)
			}
			holds(t, b, want...)
		}
	}
}

func TestP10_1_PutOfEveryAnti(t *testing.T) {
	b, want := New(), []api.Entry(nil)
	for anti := -1; anti < 257; anti++ {
		e := api.Entry{Line: 257, Class: 3, R: 1, D: 1, Anti: anti}
		puts(t, b, e, api.OK)
		want = append(want, e)
	}
	holds(t, b, want...)
	b = bag(t, api.Entry{Line: 2, Anti: 257})
	holds(t, b, api.Entry{Line: 2, Anti: 257})
}

func TestP10_1_PutRefused(t *testing.T) {
	a := api.Entry{Line: 2, Class: 3, R: 1, D: 1, Anti: -1}
	for _, x := range wrong() {
		empty, some := New(), bag(t, a, a)
		puts(t, empty, x, api.ErrArg)
		holds(t, empty)
		puts(t, some, x, api.ErrArg)
		holds(t, some, a, a)
		puts(t, some, a, api.OK)
		holds(t, some, a, a, a)
	}
}

// Two fields, or all, are wrong at once.
func TestP10_1_PutWrongInAll(t *testing.T) {
	b := New()
	for _, line := range []int{1, 2, 258} {
		for _, c := range []int{-1, 0, 4} {
			for _, anti := range []int{-2, -1, 258} {
				want := api.ErrArg
				if line == 2 && c == 0 && anti == -1 {
					want = api.OK
				}
				puts(t, b, api.Entry{Line: line, Class: c, Anti: anti}, want)
			}
		}
	}
	holds(t, b, api.Entry{Line: 2, Anti: -1})
}

// R and D may be any numbers, and are kept as they are.
func TestP10_1_PutOfEveryNumber(t *testing.T) {
	numbers := []uint64{0, 1, 2, 1<<32 - 1, 1 << 32, 1 << 60, 1<<61 + 1, 1<<63 - 1, 1 << 63, math.MaxUint64 - 1, math.MaxUint64}
	b, want := New(), []api.Entry(nil)
	for _, r := range numbers {
		for _, d := range numbers {
			e := api.Entry{Line: 5, Class: 1, R: r, D: d, Anti: 9}
			puts(t, b, e, api.OK)
			want = append(want, e)
		}
	}
	holds(t, b, want...)
}

// Entries that are equal are as many as were put in, and go out one by one.
func TestP10_1_EqualEntries(t *testing.T) {
	r := inside(t, 4)
	a, b := api.Entry{Line: 9, Class: 0, R: 3, D: 2, Anti: 4}, api.Entry{Line: 9, Class: 0, R: 4, D: 2, Anti: 4}
	l := bag(t, a, b, a, a, b)
	pops(t, l, r, 2, a, b, a, a, b)
	pops(t, l, r, 2, a, b, a, b)
	puts(t, l, a, api.OK)
	holds(t, l, b, a, b, a)
	pops(t, l, r, 2, a, b, b, a)
	pops(t, l, r, 2, a, b, b)
	none(t, l, r, 2)
	r.Leave(2)
	pops(t, l, r, 2, b, b)
	pops(t, l, r, 2, b)
	none(t, l, r, 2)
}

// many returns so many entries, each of them another one, that wait for nobody and for the durable epochs 1 to 3.
func many(n int) []api.Entry {
	var all []api.Entry
	for i := range n {
		all = append(all, api.Entry{Line: 2 + i%256, Class: i / 256, R: 1, D: uint64(1 + i%3), Anti: i%258 - 1})
	}
	return all
}

func TestP10_1_Full(t *testing.T) {
	r := readers(t)
	all := many(259)
	b := bag(t, all[:257]...)
	holds(t, b, all[:257]...)
	puts(t, b, all[257], api.OK)
	holds(t, b, all[:258]...)
	for range 3 {
		puts(t, b, all[258], api.ErrFull)
		puts(t, b, all[0], api.ErrFull)
		holds(t, b, all[:258]...)
	}
	for _, x := range wrong() {
		puts(t, b, x, api.ErrArg)
	}
	none(t, b, r, 0)
	none(t, b, nil, 9)
	puts(t, b, all[258], api.ErrFull)
	holds(t, b, all[:258]...)
}

// As soon as one has been taken out, from wherever, there is room for one.
func TestP10_1_RoomAgain(t *testing.T) {
	r := readers(t)
	all := many(258)
	for durable := uint64(1); durable <= 3; durable++ {
		b := bag(t, all...)
		// Each one that goes out is replaced by one that waits for longer, until none is ready.
		want := slices.Clone(all)
		for i := range 258 {
			longer := api.Entry{Line: 2 + i%256, Class: 2, R: 1, D: 8, Anti: -1}
			puts(t, b, longer, api.ErrFull)
			at := slices.IndexFunc(want, func(e api.Entry) bool { return e.D <= durable })
			if at < 0 {
				break
			}
			e := want[at]
			want = slices.Delete(want, at, at+1)
			pops(t, b, r, durable, e, want...)
			puts(t, b, longer, api.OK)
			want = append(want, longer)
			puts(t, b, longer, api.ErrFull)
			holds(t, b, want...)
		}
		none(t, b, r, durable)
	}
}

// Nothing is ready of an empty bag, new or emptied.
func TestP10_2_Empty(t *testing.T) {
	for _, epoch := range []uint64{0, 1, 7} {
		r := inside(t, epoch)
		b := New()
		for _, durable := range []uint64{0, 1, math.MaxUint64} {
			none(t, b, r, durable)
		}
		zero := api.Entry{Line: 2}
		puts(t, b, zero, api.OK)
		pops(t, b, r, 0, zero)
		none(t, b, r, math.MaxUint64)
	}
}

func TestP10_2_NoReaders(t *testing.T) {
	b := bag(t, api.Entry{Line: 2, Anti: -1}, api.Entry{Line: 3, R: 1, D: 1}, api.Entry{Line: 4, R: math.MaxUint64, D: math.MaxUint64})
	for _, durable := range []uint64{0, 1, 2, math.MaxUint64} {
		none(t, b, nil, durable)
	}
	pops(t, b, readers(t), 0, api.Entry{Line: 2, Anti: -1}, b.All()[1:]...)
}

// An entry of every R with every state of the readers, and of every D with every durable epoch around it: it is ready if neither says no.
func TestP10_2_JoinRule(t *testing.T) {
	for _, announced := range []uint64{0, 1, 2, 3, 6} {
		r := inside(t, announced)
		for R := uint64(0); R <= 7; R++ {
			for _, D := range []uint64{0, 1, 2, 5, 1 << 40, math.MaxUint64 - 1, math.MaxUint64} {
				for _, durable := range []uint64{D - 1, D, D + 1, 0, math.MaxUint64} {
					e := api.Entry{Line: 6, Class: 1, R: R, D: D, Anti: 3}
					b := bag(t, e)
					if (announced == 0 || announced > R) && D <= durable {
						ready(t, b, r, durable, e)
						pops(t, b, r, durable, e)
					} else {
						none(t, b, r, durable)
					}
				}
			}
		}
	}
}

// The greatest R is ready for nobody but readers of whom nobody is inside; R of 0 is ready whoever is inside.
func TestP10_2_EndsOfR(t *testing.T) {
	last, first := api.Entry{Line: 2, R: math.MaxUint64, Anti: -1}, api.Entry{Line: 3, Anti: -1}
	for _, epoch := range []uint64{1, 2, 300} {
		r := inside(t, epoch)
		b := bag(t, last, first)
		pops(t, b, r, 0, first, last)
		none(t, b, r, math.MaxUint64)
		r.Leave(2)
		pops(t, b, r, 0, last)
	}
}

// One that is ready in every place among entries that are not: by R alone, by D alone, by both, and by turns.
func TestP10_2_Places(t *testing.T) {
	r := inside(t, 5)
	good := api.Entry{Line: 100, Class: 2, R: 4, D: 3, Anti: 8}
	waits := []api.Entry{
		{Line: 20, R: 5, D: 3, Anti: -1}, {Line: 21, R: 4, D: 4, Anti: -1}, {Line: 22, R: 5, D: 4, Anti: -1},
		{Line: 23, R: 6, D: 0, Anti: 0}, {Line: 24, R: 0, D: 9, Anti: 0}, {Line: 25, R: 9, D: 9, Anti: 0},
	}
	for n := range 8 {
		for kind := range len(waits) + 1 {
			var others []api.Entry
			for i := range n {
				e := waits[(kind+i)%len(waits)]
				if kind < len(waits) {
					e = waits[kind]
				}
				e.Line += i * 10
				others = append(others, e)
			}
			none(t, bag(t, others...), r, 3)
			for at := 0; at <= n; at++ {
				b := bag(t, slices.Insert(slices.Clone(others), at, good)...)
				ready(t, b, r, 3, good)
				pops(t, b, r, 3, good, others...)
				none(t, b, r, 3)
			}
		}
	}
}

// Of several that are ready the first one goes out, whatever the others wait for, and neither the least R nor the least D nor the lowest line is ahead of it.
func TestP10_2_TheFirstOfSeveral(t *testing.T) {
	r := inside(t, 9)
	a, b := api.Entry{Line: 50, Class: 3, R: 8, D: 7, Anti: -1}, api.Entry{Line: 2, Class: 0, R: 1, D: 1, Anti: -1}
	wait := api.Entry{Line: 30, R: 9, D: 1, Anti: -1}
	c := api.Entry{Line: 257, Class: 1, R: 3, D: 2, Anti: 257}
	l := bag(t, wait, a, b, wait, c)
	ready(t, l, r, 7, a)
	ready(t, l, r, 6, b)
	ready(t, l, r, 1, b)
	none(t, l, r, 0)
	pops(t, l, r, 7, a, wait, b, wait, c)
	pops(t, l, r, 7, b, wait, wait, c)
	pops(t, l, r, 7, c, wait, wait)
	none(t, l, r, 7)
	r.Leave(2)
	pops(t, l, r, 7, wait, wait)
	pops(t, l, r, 7, wait)
}

// The least that any thread has announced counts, and a thread that enters later is in the way only of what was unlinked since.
func TestP10_2_SeveralReaders(t *testing.T) {
	r := readers(t)
	e := func(R uint64) api.Entry { return api.Entry{Line: 2 + int(R), R: R, D: 1, Anti: -1} }
	b := bag(t, e(1), e(2), e(3), e(4))
	r.Advance()
	r.Enter(3)
	r.Advance()
	r.Enter(0)
	r.Advance()
	r.Enter(1)
	pops(t, b, r, 1, e(1), e(2), e(3), e(4))
	none(t, b, r, 1)
	r.Leave(0)
	none(t, b, r, 1)
	r.Leave(3)
	pops(t, b, r, 1, e(2), e(3), e(4))
	pops(t, b, r, 1, e(3), e(4))
	none(t, b, r, 1)
	r.Advance()
	none(t, b, r, 1)
	r.Enter(3)
	none(t, b, r, 1)
	r.Leave(1)
	pops(t, b, r, 1, e(4))
}

// Ready and Pop go by the readers and the epoch that they are given, and keep neither.
func TestP10_2_OtherReadersEachTime(t *testing.T) {
	e := api.Entry{Line: 7, R: 2, D: 3, Anti: -1}
	b := bag(t, e)
	busy, free := inside(t, 2), inside(t, 3)
	none(t, b, busy, 3)
	ready(t, b, free, 3, e)
	none(t, b, busy, 9)
	none(t, b, free, 2)
	none(t, b, nil, 9)
	pops(t, b, free, 3, e)
}

// The readers are asked and not changed.
func TestP10_2_ReadersStay(t *testing.T) {
	r := inside(t, 3)
	b := bag(t, api.Entry{Line: 7, R: 2, D: 1, Anti: -1}, api.Entry{Line: 8, R: 3, D: 1, Anti: -1})
	for range 3 {
		b.Ready(r, 1)
		b.Pop(r, 1)
	}
	if e, ok := r.Inside(2); e != 3 || !ok || r.Now() != 3 {
		t.Errorf("thread 2 is inside: %v with %d, the epoch is %d", ok, e, r.Now())
	}
	for _, thread := range []int{0, 1, 3} {
		if _, ok := r.Inside(thread); ok {
			t.Errorf("thread %d is inside", thread)
		}
	}
}

// The promise as it is told, with one thread that entered ahead of the unlinking and one that entered behind it.
func TestP10_3_Told(t *testing.T) {
	for epoch := uint64(1); epoch < 20; epoch++ {
		r := inside(t, epoch)
		e := api.Entry{Line: 4, Class: 1, R: r.Now(), D: epoch, Anti: -1}
		b := bag(t, e)
		none(t, b, r, epoch)
		r.Advance()
		r.Enter(0)
		none(t, b, r, epoch)
		r.Leave(2)
		none(t, b, r, epoch-1)
		pops(t, b, r, epoch, e)
	}
}

func TestR3_NoBag(t *testing.T) {
	var b *Bag
	for _, x := range append(wrong(), api.Entry{}, api.Entry{Line: 2}, api.Entry{Line: 257, Class: 3, R: 1, D: 1, Anti: -1}) {
		puts(t, b, x, api.ErrArg)
	}
	for _, r := range []*reader.Readers{nil, readers(t), inside(t, 1)} {
		for _, durable := range []uint64{0, 1, math.MaxUint64} {
			none(t, b, r, durable)
		}
	}
	if all := b.All(); len(all) != 0 || b.Len() != 0 {
		t.Errorf("no bag: All %v, Len %d", all, b.Len())
	}
}

// Objects that New did not make: nothing is promised for them but an answer.
func TestR1_OtherObjects(t *testing.T) {
	b, r := &Bag{}, &reader.Readers{}
	b.Put(api.Entry{Line: 2})
	b.Ready(r, 1)
	b.Pop(r, 1)
	b.Pop(readers(t), 1)
	b.All()
	b.Len()
	some := bag(t, api.Entry{Line: 2})
	some.Ready(r, 1)
	some.Pop(r, 1)
}

// spoil writes over what All returned, and behind it.
func spoil(all []api.Entry) {
	junk := api.Entry{Line: -9, Class: -9, R: 99, D: 99, Anti: -9}
	all = all[:cap(all)]
	for i := range all {
		all[i] = junk
	}
	_ = append(all[:0], junk, junk, junk)
	_ = append(all, junk)
}

// What All returned may be written over and appended to: neither the bag nor other answers change.
func TestR4_AnswersAreNewMemory(t *testing.T) {
	r := readers(t)
	entries := many(12)
	b := bag(t, entries[:6]...)
	spoil(b.All())
	holds(t, b, entries[:6]...)
	one, other := b.All(), b.All()
	spoil(one)
	if !slices.Equal(other, entries[:6]) {
		t.Errorf("another answer is now %v", other)
	}
	for i := 6; i < 12; i++ {
		puts(t, b, entries[i], api.OK)
		spoil(b.All())
		holds(t, b, entries[:i+1]...)
	}
	for i := range 12 {
		pops(t, b, r, 3, entries[i], entries[i+1:]...)
		spoil(b.All())
		holds(t, b, entries[i+1:]...)
	}
	spoil(b.All())
	puts(t, b, entries[0], api.OK)
	holds(t, b, entries[0])
}

// What All returned stays as it was, whatever is called later.
func TestR4_AnswersStay(t *testing.T) {
	r := readers(t)
	entries := many(9)
	b := New()
	var answers [][]api.Entry
	for i, e := range entries {
		puts(t, b, e, api.OK)
		answers = append(answers, b.All())
		if i == 5 {
			b.Pop(r, 3)
			b.Pop(r, 3)
		}
	}
	for b.Len() > 0 {
		b.Pop(r, 3)
	}
	puts(t, b, api.Entry{Line: 250, Class: 3, R: 1, D: 1, Anti: 3}, api.OK)
	for i, all := range answers {
		want := entries[:i+1]
		if i > 5 {
			want = want[2:]
		}
		if !slices.Equal(all, want) {
			t.Errorf("answer %d is now %v, was %v", i, all, want)
		}
	}
}

// What is put into one bag is not seen in another one, with the same readers.
func TestR5_TwoBags(t *testing.T) {
	r := inside(t, 2)
	a, b := api.Entry{Line: 2, R: 1, D: 1, Anti: -1}, api.Entry{Line: 3, R: 2, D: 1, Anti: -1}
	one, other := New(), New()
	puts(t, one, a, api.OK)
	holds(t, other)
	none(t, other, r, 1)
	puts(t, other, b, api.OK)
	puts(t, other, a, api.OK)
	pops(t, one, r, 1, a)
	holds(t, other, b, a)
	pops(t, other, r, 1, a, b)
	holds(t, one)
}

// Bags of several goroutines do not disturb each other.
func TestR5_ManyGoroutines(t *testing.T) {
	var wait sync.WaitGroup
	for g := range 8 {
		wait.Go(func() {
			if what := fillAndEmpty(g); what != "" {
				t.Errorf("goroutine %d: %s", g, what)
			}
		})
	}
	wait.Wait()
}

// fillAndEmpty fills a bag and lets it out again, time after time, and returns what was wrong.
func fillAndEmpty(g int) string {
	r, _ := reader.New(1)
	b := New()
	for round := range 40 {
		r.Enter(0)
		epoch := r.Now()
		for i := range 258 {
			e := api.Entry{Line: 2 + (i+g)%256, Class: g % 4, R: epoch, D: uint64(round), Anti: i%258 - 1}
			if b.Put(e) != api.OK || b.Len() != i+1 {
				return fmt.Sprintf("Put(%v) of round %d, and Len is %d", e, round, b.Len())
			}
		}
		r.Advance()
		if e, ok := b.Pop(r, uint64(round)); ok {
			return fmt.Sprintf("%v went out, and the thread is inside", e)
		}
		r.Leave(0)
		for i := range 258 {
			want := api.Entry{Line: 2 + (i+g)%256, Class: g % 4, R: epoch, D: uint64(round), Anti: i%258 - 1}
			if e, ok := b.Pop(r, uint64(round)); e != want || !ok || b.Len() != 257-i {
				return fmt.Sprintf("Pop = %v, %v, want %v, and Len is %d", e, ok, want, b.Len())
			}
		}
	}
	return ""
}
