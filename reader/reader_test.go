package reader

import (
	"math"
	"sync"
	"testing"

	"fusee/api"
)

// made returns a new clock for so many threads.
func made(t *testing.T, threads int) *Readers {
	t.Helper()
	r, e := New(threads)
	if r == nil || e != api.OK {
		t.Fatalf("New(%d): %v, %d", threads, r, e)
	}
	return r
}

// enters fails the test if Enter(thread) does not return the epoch.
func enters(t *testing.T, r *Readers, thread int, epoch uint64) {
	t.Helper()
	if got, e := r.Enter(thread); got != epoch || e != api.OK {
		t.Errorf("Enter(%d) = %d, %d, want epoch %d", thread, got, e, epoch)
	}
}

// refuses fails the test if Enter(thread) does not return the error e.
func refuses(t *testing.T, r *Readers, thread int, e api.Errno) {
	t.Helper()
	if got, code := r.Enter(thread); got != 0 || code != e {
		t.Errorf("Enter(%d) = %d, %d, want error %d", thread, got, code, e)
	}
}

// leaves fails the test if Leave(thread) does not return e.
func leaves(t *testing.T, r *Readers, thread int, e api.Errno) {
	t.Helper()
	if got := r.Leave(thread); got != e {
		t.Errorf("Leave(%d) = %d, want %d", thread, got, e)
	}
}

// advances fails the test if Advance does not return the epoch, or Now does not tell it afterwards.
func advances(t *testing.T, r *Readers, epoch uint64) {
	t.Helper()
	if got, now := r.Advance(), r.Now(); got != epoch || now != epoch {
		t.Errorf("Advance = %d, then Now %d, want %d", got, now, epoch)
	}
}

// announced fails the test if thread is not inside with this epoch.
func announced(t *testing.T, r *Readers, thread int, epoch uint64) {
	t.Helper()
	if got, ok := r.Inside(thread); got != epoch || !ok {
		t.Errorf("Inside(%d) = %d, %v, want %d", thread, got, ok, epoch)
	}
}

// away fails the test if thread is told to be inside.
func away(t *testing.T, r *Readers, thread int) {
	t.Helper()
	if got, ok := r.Inside(thread); got != 0 || ok {
		t.Errorf("Inside(%d) = %d, %v, want none", thread, got, ok)
	}
}

// least fails the test if Least does not return the epoch (0: no thread is inside).
func least(t *testing.T, r *Readers, epoch uint64) {
	t.Helper()
	if got, ok := r.Least(); got != epoch || ok != (epoch != 0) {
		t.Errorf("Least = %d, %v, want %d", got, ok, epoch)
	}
}

// quiet fails the test if Quiet is not want for one of the epochs.
func quiet(t *testing.T, r *Readers, want bool, epochs ...uint64) {
	t.Helper()
	for _, e := range epochs {
		if got := r.Quiet(e); got != want {
			t.Errorf("Quiet(%d) = %v, want %v", e, got, want)
		}
	}
}

// noThreads returns numbers that are no thread of a clock for so many: the neighbours of the threads, and numbers that would be threads if their upper bits were lost.
func noThreads(threads int) []int {
	return []int{-1, threads, -2, -threads, threads + 1, 4, 5, 256, 1 << 16, 1 << 31, 1 << 32, 1<<32 + threads - 1, 1 << 61, -1 << 32, math.MaxInt, math.MinInt, math.MinInt + threads - 1}
}

func TestExamples(t *testing.T) {
	r := made(t, 2)
	enters(t, r, 0, 1)
	advances(t, r, 2)
	enters(t, r, 1, 2)
	least(t, r, 1)
	quiet(t, r, false, 1)

	leaves(t, r, 0, api.OK)
	quiet(t, r, true, 1)
	quiet(t, r, false, 2)
	refuses(t, r, 1, api.ErrBusy)
	leaves(t, r, 0, api.ErrIdle)
}

func TestP8_1_New(t *testing.T) {
	for _, threads := range []int{0, 5, -1, 6, -2, -4, 8, 256, 257, 1 << 16, 1 << 31, 1 << 32, 1<<32 + 1, 1<<61 + 4, -1 << 32, -1<<32 + 1, math.MaxInt, math.MinInt, math.MinInt + 1} {
		if r, e := New(threads); r != nil || e != api.ErrRange {
			t.Errorf("New(%d) = %v, %d", threads, r, e)
		}
	}
	for threads := 1; threads <= 4; threads++ {
		r := made(t, threads)
		if r.Now() != 1 {
			t.Errorf("New(%d): the epoch is %d", threads, r.Now())
		}
		least(t, r, 0)
		quiet(t, r, true, 0, 1, 2, math.MaxUint64)
		for thread := range threads {
			away(t, r, thread)
			leaves(t, r, thread, api.ErrIdle)
		}
		for thread := range threads {
			enters(t, r, thread, 1)
		}
		refuses(t, r, threads, api.ErrArg)
	}
}

// What is no thread is refused, and told apart from a thread that is inside or not, whoever is inside; nothing changes.
func TestP8_1_NoSuchThread(t *testing.T) {
	for threads := 1; threads <= 4; threads++ {
		x := newPair(t, threads)
		for inside := 0; inside <= threads; inside++ {
			for _, thread := range noThreads(threads) {
				refuses(t, x.r, thread, api.ErrArg)
				leaves(t, x.r, thread, api.ErrArg)
				away(t, x.r, thread)
				x.m.same(t, "a call of no thread", x.r)
			}
			if inside < threads {
				x.enter(inside)
				x.advance()
			}
		}
	}
}

func TestP8_1_EnterTwice(t *testing.T) {
	for threads := 1; threads <= 4; threads++ {
		for thread := range threads {
			x := newPair(t, threads)
			x.advance()
			x.enter(thread)
			refuses(t, x.r, thread, api.ErrBusy)
			x.m.same(t, "an Enter in the same epoch", x.r)
			x.advance()
			x.advance()
			refuses(t, x.r, thread, api.ErrBusy)
			announced(t, x.r, thread, 2)
			x.m.same(t, "an Enter in a later epoch", x.r)
			x.leave(thread)
			x.enter(thread)
			announced(t, x.r, thread, 4)
		}
	}
}

func TestP8_1_LeaveTwice(t *testing.T) {
	for threads := 1; threads <= 4; threads++ {
		for thread := range threads {
			x := newPair(t, threads)
			for other := range threads {
				if other != thread {
					x.enter(other)
				}
			}
			leaves(t, x.r, thread, api.ErrIdle)
			x.m.same(t, "a Leave ahead of any Enter", x.r)
			x.enter(thread)
			x.leave(thread)
			x.advance()
			leaves(t, x.r, thread, api.ErrIdle)
			x.m.same(t, "a second Leave", x.r)
		}
	}
}

// Enter announces the epoch of its moment, also behind many Advances; later ones do not change it.
func TestP8_1_AnnouncedStays(t *testing.T) {
	r := made(t, 4)
	now := uint64(1)
	var want [4]uint64
	for thread, steps := range []int{0, 1, 299, 70000} {
		for range steps {
			now++
			advances(t, r, now)
		}
		enters(t, r, thread, now)
		want[thread] = now
		for i := range thread + 1 {
			announced(t, r, i, want[i])
		}
	}
	if want != [4]uint64{1, 2, 301, 70301} {
		t.Errorf("the epochs were %v", want)
	}
}

func TestP8_1_Inside(t *testing.T) {
	r := made(t, 3)
	r.Advance()
	enters(t, r, 1, 2)
	away(t, r, 0)
	announced(t, r, 1, 2)
	away(t, r, 2)
	r.Advance()
	enters(t, r, 2, 3)
	leaves(t, r, 1, api.OK)
	away(t, r, 0)
	away(t, r, 1)
	announced(t, r, 2, 3)
	for _, thread := range noThreads(3) {
		away(t, r, thread)
	}
}

// Advance is told by Now and changes nothing else, with any number of threads inside.
func TestP8_2_Advance(t *testing.T) {
	for inside := 0; inside <= 4; inside++ {
		x := newPair(t, 4)
		for thread := range inside {
			x.enter(thread)
		}
		for epoch := uint64(2); epoch <= 40; epoch++ {
			x.advance()
			if x.r.Now() != epoch || x.r.Now() != epoch {
				t.Errorf("Now is %d, want %d", x.r.Now(), epoch)
			}
		}
		for thread := range inside {
			announced(t, x.r, thread, 1)
		}
	}
}

// orders returns the numbers 0 to n - 1 in every order.
func orders(n int) [][]int {
	if n == 0 {
		return [][]int{nil}
	}
	var all [][]int
	for _, short := range orders(n - 1) {
		for at := range n {
			row := append([]int{}, short[:at]...)
			all = append(all, append(append(row, n-1), short[at:]...))
		}
	}
	return all
}

// Threads enter in every order and leave in every order, with unlike epochs, with the same one, and with two of each.
func TestP8_2_Least(t *testing.T) {
	for threads := 1; threads <= 4; threads++ {
		for _, in := range orders(threads) {
			for _, out := range orders(threads) {
				for every := 1; every <= 4; every++ {
					leastOf(t, in, out, every)
				}
			}
		}
	}
}

// leastOf lets threads in, with an Advance behind every so many of them, and out, and asks for Least behind each call.
func leastOf(t *testing.T, in, out []int, every int) {
	t.Helper()
	r := made(t, len(in))
	least(t, r, 0)
	epochs := make([]uint64, len(in))
	for i, thread := range in {
		epochs[thread] = uint64(1 + i/every)
		enters(t, r, thread, epochs[thread])
		least(t, r, 1)
		if (i+1)%every == 0 {
			r.Advance()
		}
	}
	for i, thread := range out {
		leaves(t, r, thread, api.OK)
		want := uint64(0)
		for _, stays := range out[i+1:] {
			if want == 0 || epochs[stays] < want {
				want = epochs[stays]
			}
		}
		least(t, r, want)
	}
}

func TestP8_2_QuietWithNobody(t *testing.T) {
	every := []uint64{0, 1, 2, 3, 4, 1 << 32, 1 << 63, math.MaxUint64 - 1, math.MaxUint64}
	r := made(t, 4)
	quiet(t, r, true, every...)
	r.Advance()
	r.Advance()
	quiet(t, r, true, every...)
	enters(t, r, 3, 3)
	leaves(t, r, 3, api.OK)
	quiet(t, r, true, every...)
}

func TestP8_2_QuietWithOne(t *testing.T) {
	r := made(t, 1)
	enters(t, r, 0, 1)
	quiet(t, r, true, 0)
	quiet(t, r, false, 1, 2, 3, 1<<32, 1<<32+1, 1<<63, math.MaxUint64)
	leaves(t, r, 0, api.OK)
	for range 99 {
		r.Advance()
	}
	enters(t, r, 0, 100)
	r.Advance()
	quiet(t, r, true, 0, 1, 98, 99)
	quiet(t, r, false, 100, 101, 102, 1<<32, 1<<32+1, 1<<63, math.MaxUint64-1, math.MaxUint64)
}

func TestP8_2_QuietWithSeveral(t *testing.T) {
	r := made(t, 4)
	for range 9 {
		r.Advance()
	}
	enters(t, r, 2, 10)
	r.Advance()
	r.Advance()
	enters(t, r, 0, 12)
	enters(t, r, 3, 12)
	r.Advance()
	r.Advance()
	enters(t, r, 1, 14)
	r.Advance()
	all := []uint64{10, 11, 12, 13, 14, 15, 16, math.MaxUint64}
	quiet(t, r, true, 0, 1, 8, 9)
	quiet(t, r, false, all...)
	leaves(t, r, 2, api.OK)
	quiet(t, r, true, 0, 9, 10, 11)
	quiet(t, r, false, all[2:]...)
	leaves(t, r, 0, api.OK)
	quiet(t, r, true, 0, 10, 11)
	quiet(t, r, false, all[2:]...)
	leaves(t, r, 3, api.OK)
	quiet(t, r, true, 0, 11, 12, 13)
	quiet(t, r, false, all[4:]...)
	leaves(t, r, 1, api.OK)
	quiet(t, r, true, 0)
	quiet(t, r, true, all...)
}

// The promise as it is told: one thread entered ahead of a moment, the other behind the Advance that follows it.
func TestP8_3_Told(t *testing.T) {
	for before := range 20 {
		r := made(t, 2)
		for range before {
			r.Advance()
		}
		r.Enter(0)
		for range before % 3 {
			r.Advance()
		}
		e := r.Now()
		r.Advance()
		r.Enter(1)
		quiet(t, r, false, e)
		r.Leave(0)
		quiet(t, r, true, e)
		r.Advance()
		quiet(t, r, true, e)
	}
}

func TestR3_NoReaders(t *testing.T) {
	var r *Readers
	for _, thread := range append(noThreads(1), 0, 1, 2, 3) {
		refuses(t, r, thread, api.ErrArg)
		leaves(t, r, thread, api.ErrArg)
		away(t, r, thread)
	}
	quiet(t, r, false, 0, 1, 2, math.MaxUint64)
	least(t, r, 0)
	if now, next := r.Now(), r.Advance(); now != 0 || next != 0 {
		t.Errorf("no readers: Now %d, Advance %d", now, next)
	}
}

// A clock that New did not make has no threads; nothing is promised for it but an answer.
func TestR1_OtherReaders(t *testing.T) {
	r := &Readers{}
	for thread := -1; thread <= 4; thread++ {
		r.Enter(thread)
		r.Inside(thread)
		r.Leave(thread)
	}
	r.Quiet(r.Advance())
	r.Least()
	r.Now()
}

// What is called on one clock is not seen on another.
func TestR5_TwoClocks(t *testing.T) {
	a, b := newPair(t, 2), newPair(t, 2)
	a.enter(1)
	a.advance()
	b.m.same(t, "calls of another clock", b.r)
	b.enter(0)
	b.enter(1)
	b.leave(1)
	a.m.same(t, "calls of another clock", a.r)
	a.leave(1)
	b.m.same(t, "calls of another clock", b.r)
}

// Clocks of several goroutines do not disturb each other.
func TestR5_ManyGoroutines(t *testing.T) {
	var wait sync.WaitGroup
	for g := range 8 {
		wait.Go(func() {
			threads := 1 + g%4
			r, e := New(threads)
			if e != api.OK {
				t.Errorf("New(%d): %d", threads, e)
				return
			}
			now := uint64(1)
			for range 500 {
				first := now
				for thread := range threads {
					enters(t, r, thread, now)
					now++
					advances(t, r, now)
				}
				least(t, r, first)
				quiet(t, r, true, first-1)
				quiet(t, r, false, first, now)
				for thread := range threads {
					announced(t, r, thread, first+uint64(thread))
					leaves(t, r, thread, api.OK)
				}
				least(t, r, 0)
			}
		})
	}
	wait.Wait()
}
