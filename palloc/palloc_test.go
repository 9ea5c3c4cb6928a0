package palloc

import (
	"math"
	"slices"
	"sync"
	"testing"

	"fusee/api"
)

// made returns a new pool of so many slabs.
func made(t *testing.T, slabs int) *Pool {
	t.Helper()
	p, e := New(slabs)
	if p == nil || e != api.OK {
		t.Fatalf("New(%d): %v, %d", slabs, p, e)
	}
	return p
}

// takes fails the test if Take(c) does not return line.
func takes(t *testing.T, p *Pool, c int, line int) {
	t.Helper()
	if got, e := p.Take(c); got != line || e != api.OK {
		t.Errorf("Take(%d) = %d, %d, want line %d", c, got, e, line)
	}
}

// refuses fails the test if Take(c) does not return the error e, or changes the pool.
func refuses(t *testing.T, p *Pool, c int, e api.Errno) {
	t.Helper()
	unchanged(t, "Take", p, func() {
		if line, got := p.Take(c); line != 0 || got != e {
			t.Errorf("Take(%d) = %d, %d, want error %d", c, line, got, e)
		}
	})
}

// gives fails the test if Give(line) does not return e, or changes the pool in spite of an error.
func gives(t *testing.T, p *Pool, line int, e api.Errno) {
	t.Helper()
	give := func() {
		if got := p.Give(line); got != e {
			t.Errorf("Give(%d) = %d, want %d", line, got, e)
		}
	}
	if e == api.OK {
		give()
	} else {
		unchanged(t, "Give", p, give)
	}
}

// marks fails the test if Mark(line, c) does not return e, or changes the pool in spite of an error.
func marks(t *testing.T, p *Pool, line int, c int, e api.Errno) {
	t.Helper()
	mark := func() {
		if got := p.Mark(line, c); got != e {
			t.Errorf("Mark(%d, %d) = %d, want %d", line, c, got, e)
		}
	}
	if e == api.OK {
		mark()
	} else {
		unchanged(t, "Mark", p, mark)
	}
}

// holds fails the test if the pool's blocks or the classes of its slabs are not these.
func holds(t *testing.T, p *Pool, slabs []int, blocks ...api.Taken) {
	t.Helper()
	if !slices.Equal(p.Taken(), blocks) || !slices.Equal(p.Slabs(), slabs) {
		t.Errorf("the pool holds %v in slabs %v, want %v in %v", p.Taken(), p.Slabs(), blocks, slabs)
	}
}

// unchanged fails the test if the call changes anything that can be asked of the pool.
func unchanged(t *testing.T, what string, p *Pool, call func()) {
	t.Helper()
	m := model{slabs: len(p.Slabs()), blocks: p.Taken()}
	call()
	m.same(t, what+" that was refused", p)
}

func TestExamples(t *testing.T) {
	p := made(t, 2)
	takes(t, p, 2, 2)
	takes(t, p, 0, 10)
	takes(t, p, 2, 6)
	refuses(t, p, 3, api.ErrNoSpace)
	gives(t, p, 2, api.OK)
	takes(t, p, 2, 2)
	gives(t, p, 2, api.OK)
	gives(t, p, 6, api.OK)
	takes(t, p, 3, 2)
	gives(t, p, 3, api.ErrArg)
	marks(t, p, 10, 0, api.ErrBusy)
	marks(t, p, 11, 1, api.ErrArg)
	marks(t, p, 11, 0, api.OK)
	holds(t, p, []int{3, 0}, api.Taken{Line: 2, Class: 3}, api.Taken{Line: 10, Class: 0}, api.Taken{Line: 11, Class: 0})
}

func TestP7_1_New(t *testing.T) {
	for _, slabs := range []int{0, -1, -2, -32, 33, 34, 64, 256, 258, 1 << 8, 1<<8 + 1, 1 << 32, 1<<32 + 1, 1 << 61, -1 << 32, -1<<32 + 1, math.MaxInt, math.MinInt, math.MinInt + 1} {
		if p, e := New(slabs); p != nil || e != api.ErrRange {
			t.Errorf("New(%d) = %v, %d", slabs, p, e)
		}
	}
	for slabs := 1; slabs <= 32; slabs++ {
		newPair(t, slabs)
	}
}

// Blocks of each class, one behind the other, until the pool is full.
func TestP7_1_TakeUntilFull(t *testing.T) {
	for _, slabs := range []int{1, 2, 32} {
		for c, span := range wantSpans {
			p := made(t, slabs)
			var want []api.Taken
			for line := 2; line < 2+8*slabs; line += span {
				takes(t, p, c, line)
				want = append(want, api.Taken{Line: line, Class: c})
			}
			holds(t, p, slices.Repeat([]int{c}, slabs), want...)
			for other := range 4 {
				refuses(t, p, other, api.ErrNoSpace)
				if p.Room(other) || len(p.Free(other)) != 0 {
					t.Errorf("a full pool: Room(%d) = %v, Free %v", other, p.Room(other), p.Free(other))
				}
			}
			disjoint(t, "a full pool", p)
		}
	}
}

func TestP7_1_TakeOfNoClass(t *testing.T) {
	fresh, full := made(t, 2), made(t, 1)
	full.Take(3)
	for _, c := range noClasses() {
		refuses(t, fresh, c, api.ErrArg)
		refuses(t, full, c, api.ErrArg)
	}
}

// The lowest free block is taken, in whichever slab and in whichever order blocks were given back.
func TestP7_1_TakeOfTheLowestLine(t *testing.T) {
	p := made(t, 3)
	for range 12 {
		p.Take(1)
	}
	for _, line := range []int{22, 14, 18, 6, 16} {
		gives(t, p, line, api.OK)
	}
	if got := p.Free(1); !slices.Equal(got, []int{6, 14, 16, 18, 22}) {
		t.Errorf("Free(1) = %v", got)
	}
	for _, line := range []int{6, 14, 16, 18, 22} {
		takes(t, p, 1, line)
	}
	refuses(t, p, 1, api.ErrNoSpace)
}

// A block given back at a lower line is taken ahead of free blocks that were never taken.
func TestP7_1_TakeOfABlockInTheMidst(t *testing.T) {
	p := made(t, 2)
	for line := 2; line <= 12; line++ {
		takes(t, p, 0, line)
	}
	gives(t, p, 11, api.OK)
	gives(t, p, 4, api.OK)
	takes(t, p, 0, 4)
	takes(t, p, 0, 11)
	takes(t, p, 0, 13)
}

// A later slab of the class is filled first: an earlier one that becomes of the class is gone on with ahead of it.
func TestP7_1_TakeWhereALaterSlabWasFilledFirst(t *testing.T) {
	p := made(t, 3)
	marks(t, p, 22, 2, api.OK)
	takes(t, p, 2, 18) // in the slab of the class, though empty slabs are ahead
	takes(t, p, 2, 2)  // that slab is full
	takes(t, p, 2, 6)
	takes(t, p, 2, 10)
	gives(t, p, 18, api.OK)
	takes(t, p, 2, 14)
	takes(t, p, 2, 18)
	refuses(t, p, 2, api.ErrNoSpace)
}

// Empty slabs are left alone while a slab of the class has room, whichever of them is lower.
func TestP7_1_TakeLeavesEmptySlabs(t *testing.T) {
	for c, span := range wantSpans {
		p := made(t, 4)
		marks(t, p, 18, c, api.OK)
		for line := 18 + span; line < 26; line += span {
			takes(t, p, c, line)
			if got := p.Slabs(); !slices.Equal(got, []int{-1, -1, c, -1}) {
				t.Errorf("class %d: Slabs is %v", c, got)
			}
		}
		takes(t, p, c, 2)
	}
}

// Where none is free, the lowest empty slab is had, also between slabs of other classes.
func TestP7_1_TakeOfTheLowestEmptySlab(t *testing.T) {
	p := made(t, 6)
	takes(t, p, 3, 2)
	takes(t, p, 0, 10)
	takes(t, p, 1, 18)
	takes(t, p, 2, 26)
	holds(t, p, []int{3, 0, 1, 2, -1, -1}, api.Taken{Line: 2, Class: 3}, api.Taken{Line: 10, Class: 0}, api.Taken{Line: 18, Class: 1}, api.Taken{Line: 26, Class: 2})
	takes(t, p, 3, 34)
	gives(t, p, 18, api.OK)
	takes(t, p, 3, 18)
	takes(t, p, 3, 42)
	for c, room := range []bool{true, false, true, false} {
		if p.Room(c) != room {
			t.Errorf("Room(%d) = %v", c, !room)
		}
	}
}

// One free block of another class is no room, in a pool of any size.
func TestP7_1_NoSpaceBesideFreeBlocks(t *testing.T) {
	for _, slabs := range []int{1, 2, 32} {
		for c, span := range wantSpans[:3] {
			p := made(t, slabs)
			for range slabs * 8 / span {
				p.Take(c)
			}
			last := 2 + 8*slabs - span
			gives(t, p, last, api.OK)
			for other := range 4 {
				if other != c {
					refuses(t, p, other, api.ErrNoSpace)
				}
			}
			takes(t, p, c, last)
		}
	}
	// Each slab has one block only, so that all of the rest of them is free for its own class alone.
	p := made(t, 2)
	takes(t, p, 0, 2)
	takes(t, p, 1, 10)
	refuses(t, p, 2, api.ErrNoSpace)
	refuses(t, p, 3, api.ErrNoSpace)
	takes(t, p, 1, 12)
	takes(t, p, 0, 3)
}

func TestP7_1_GiveOfNoBlock(t *testing.T) {
	p := made(t, 2)
	p.Mark(2, 2)
	p.Mark(12, 1)
	for line := -20; line <= 300; line++ {
		if line != 2 && line != 12 {
			gives(t, p, line, api.ErrArg)
		}
	}
	for _, line := range noLines() {
		gives(t, p, line, api.ErrArg)
	}
	gives(t, p, 2, api.OK)
	gives(t, p, 12, api.OK)
	holds(t, p, []int{-1, -1})
}

func TestP7_1_GiveInsideABlock(t *testing.T) {
	for c, span := range wantSpans {
		p := made(t, 2)
		p.Mark(10, c)
		for line := 11; line < 10+span; line++ {
			gives(t, p, line, api.ErrArg)
		}
		holds(t, p, []int{-1, c}, api.Taken{Line: 10, Class: c})
	}
}

func TestP7_1_GiveTwice(t *testing.T) {
	for c, span := range wantSpans {
		p := made(t, 1)
		for line := 2; line < 10; line += span {
			p.Take(c)
		}
		for line := 2; line < 10; line += span {
			gives(t, p, line, api.OK)
			gives(t, p, line, api.ErrArg)
		}
		gives(t, p, 2, api.ErrArg)
		holds(t, p, []int{-1})
	}
}

// A slab is its class's up to its last block, and anyone's from then on.
func TestP7_1_EmptySlabForAnyClass(t *testing.T) {
	for from, span := range wantSpans {
		for to := range wantSpans {
			for _, way := range []string{"Take", "Mark"} {
				p := made(t, 1)
				for line := 2; line < 10; line += span {
					takes(t, p, from, line)
				}
				for line := 10 - span; line >= 2; line -= span {
					if to != from {
						refuses(t, p, to, api.ErrNoSpace)
						marks(t, p, 2, to, api.ErrBusy)
					}
					gives(t, p, line, api.OK)
				}
				holds(t, p, []int{-1})
				if len(p.Free(from)) != 0 || !p.Room(to) {
					t.Errorf("an empty slab: Free(%d) = %v, Room(%d) = %v", from, p.Free(from), to, p.Room(to))
				}
				if way == "Take" {
					takes(t, p, to, 2)
				} else {
					marks(t, p, 2, to, api.OK)
				}
				holds(t, p, []int{to}, api.Taken{Line: 2, Class: to})
			}
		}
	}
}

// Every line and every class, in an empty pool of each size.
func TestP7_2_MarkOfEveryLine(t *testing.T) {
	for _, slabs := range []int{1, 2, 32} {
		for line := -3; line <= 270; line++ {
			for c := -1; c <= 4; c++ {
				p := made(t, slabs)
				if c < 0 || c > 3 || line < 2 || line >= 2+8*slabs || (line-2)%wantSpans[c] != 0 {
					marks(t, p, line, c, api.ErrArg)
					continue
				}
				marks(t, p, line, c, api.OK)
				if got, ok := p.Of(line); got != c || !ok || !slices.Equal(p.Taken(), []api.Taken{{Line: line, Class: c}}) {
					t.Errorf("Mark(%d, %d): Of %d, %v, Taken %v", line, c, got, ok, p.Taken())
				}
			}
		}
	}
}

func TestP7_2_MarkFarOff(t *testing.T) {
	p := made(t, 32)
	for _, line := range append(noLines(), 2, 10, 250) {
		for _, c := range noClasses() {
			if e := p.Mark(line, c); e != api.ErrArg {
				t.Errorf("Mark(%d, %d) = %d", line, c, e)
			}
		}
	}
	for _, line := range noLines() {
		for c := range 4 {
			marks(t, p, line, c, api.ErrArg)
		}
	}
	// The slabs 1 and 31 are those of other devices, but not of this pool.
	one := made(t, 1)
	for _, line := range []int{10, 18, 250, 257} {
		marks(t, one, line, 0, api.ErrArg)
	}
	marks(t, one, 9, 0, api.OK)
	marks(t, p, 257, 0, api.OK)
}

func TestP7_2_MarkOfABusySlab(t *testing.T) {
	for c, span := range wantSpans {
		for line := 10; line < 18; line += span {
			p := made(t, 3)
			marks(t, p, line, c, api.OK)
			for other, otherSpan := range wantSpans {
				for at := 10; at < 18; at += otherSpan {
					if other != c || at == line {
						marks(t, p, at, other, api.ErrBusy)
					}
				}
				// The slabs beside it are nobody's.
				marks(t, p, 2, other, api.OK)
				marks(t, p, 18, other, api.OK)
				p.Give(2)
				p.Give(18)
			}
			holds(t, p, []int{-1, c, -1}, api.Taken{Line: line, Class: c})
		}
	}
}

// A block that may not start there is told as such, whether its slab is busy or not.
func TestP7_2_WhichErrorIsFirst(t *testing.T) {
	p := made(t, 2)
	marks(t, p, 11, 0, api.OK)
	marks(t, p, 2, 1, api.OK)
	for _, x := range []struct{ line, c int }{
		{11, 1}, {11, 2}, {11, 3}, // another class, and taken, but no home
		{12, 2}, {14, 3}, // another class, but no home
		{3, 1}, {3, 2}, {3, 3}, {5, 1}, // inside the slab of class 1, but no home
		{11, 4}, {11, -1}, {2, 4}, {2, -1}, {2, math.MaxInt}, // no class
		{18, 0}, {18, 3}, {250, 0}, // no slab of the pool
	} {
		marks(t, p, x.line, x.c, api.ErrArg)
	}
	for _, x := range []struct{ line, c int }{{11, 0}, {10, 1}, {10, 2}, {10, 3}, {14, 2}, {2, 1}, {2, 0}, {3, 0}, {2, 2}, {6, 2}, {2, 3}} {
		marks(t, p, x.line, x.c, api.ErrBusy)
	}
	holds(t, p, []int{1, 0}, api.Taken{Line: 2, Class: 1}, api.Taken{Line: 11, Class: 0})
}

// Blocks are told by their lines, in whichever order they were marked.
func TestP7_2_MarkInAnyOrder(t *testing.T) {
	for _, slabs := range []int{1, 2, 32} {
		next := chance(uint64(slabs))
		var blocks []api.Taken
		for k := range slabs {
			c := next(4)
			for line := 2 + 8*k; line < 10+8*k; line += wantSpans[c] {
				if next(3) > 0 {
					blocks = append(blocks, api.Taken{Line: line, Class: c})
				}
			}
		}
		shuffled := slices.Clone(blocks)
		for range 4 {
			p, m := made(t, slabs), model{slabs: slabs, blocks: blocks}
			for i := range shuffled {
				j := i + next(len(shuffled)-i)
				shuffled[i], shuffled[j] = shuffled[j], shuffled[i]
				marks(t, p, shuffled[i].Line, shuffled[i].Class, api.OK)
			}
			m.same(t, "marked in some order", p)
		}
		slices.Reverse(blocks)
		p := made(t, slabs)
		for _, b := range blocks {
			marks(t, p, b.Line, b.Class, api.OK)
		}
		(&model{slabs, blocks}).same(t, "marked from the end on", p)
	}
}

// What was marked is as what was taken: it is passed over by Take, and given back.
func TestP7_2_TakeAndGiveOfWhatWasMarked(t *testing.T) {
	x := newPair(t, 2)
	for _, line := range []int{13, 2, 4} {
		x.mark(line, 0)
	}
	for _, want := range []int{3, 5, 6, 7, 8, 9, 10, 11, 12, 14} {
		if line, e := x.take(0); line != want || e != api.OK {
			t.Errorf("Take(0) = %d, %d, want %d", line, e, want)
		}
	}
	x.give(13)
	x.mark(13, 0)
	x.give(4)
	x.take(0)
}

func TestP7_2_Inspecting(t *testing.T) {
	p := made(t, 3)
	if len(p.Taken()) != 0 || !slices.Equal(p.Slabs(), []int{-1, -1, -1}) {
		t.Errorf("an empty pool: Taken %v, Slabs %v", p.Taken(), p.Slabs())
	}
	for c := range 4 {
		if len(p.Free(c)) != 0 || !p.Room(c) {
			t.Errorf("an empty pool: Free(%d) = %v, Room %v", c, p.Free(c), p.Room(c))
		}
	}
	marks(t, p, 20, 1, api.OK)
	marks(t, p, 6, 1, api.OK)
	marks(t, p, 10, 3, api.OK)
	holds(t, p, []int{1, 3, 1}, api.Taken{Line: 6, Class: 1}, api.Taken{Line: 10, Class: 3}, api.Taken{Line: 20, Class: 1})
	for c, want := range [][]int{nil, {2, 4, 8, 18, 22, 24}, nil, nil} {
		if got := p.Free(c); !slices.Equal(got, want) || p.Room(c) != (c == 1) {
			t.Errorf("Free(%d) = %v, Room %v, want %v", c, got, p.Room(c), want)
		}
	}
	for line := -1; line <= 27; line++ {
		want := map[int]int{6: 1, 10: 3, 20: 1}
		c, ok := p.Of(line)
		if _, taken := want[line]; c != want[line] || ok != taken {
			t.Errorf("Of(%d) = %d, %v", line, c, ok)
		}
	}
	for _, line := range noLines() {
		if c, ok := p.Of(line); c != 0 || ok {
			t.Errorf("Of(%d) = %d, %v", line, c, ok)
		}
	}
}

func TestP7_2_FreeAndRoomOfNoClass(t *testing.T) {
	fresh, used := made(t, 32), made(t, 32)
	for c := range 4 {
		used.Take(c)
	}
	for _, p := range []*Pool{fresh, used} {
		for _, c := range noClasses() {
			if len(p.Free(c)) != 0 || p.Room(c) {
				t.Errorf("no class %d: Free %v, Room %v", c, p.Free(c), p.Room(c))
			}
		}
	}
}

// All rows of six calls of Take in a pool of two slabs: ErrNoSpace is told exactly if there is neither a free block nor an empty slab.
func TestP7_3_NoSpaceExactly(t *testing.T) {
	for row := range 1 << 12 {
		p := made(t, 2)
		for i := range 6 {
			c := row >> (2 * i) & 3
			none := len(p.Free(c)) == 0 && !slices.Contains(p.Slabs(), -1)
			room := p.Room(c)
			line, e := p.Take(c)
			if none != (e == api.ErrNoSpace) || room != (e == api.OK) || none == room {
				t.Fatalf("row %d: Take(%d) = %d, %d, Room was %v, none free: %v", row, c, line, e, room, none)
			}
			disjoint(t, "Take", p)
		}
	}
}

// Marks of every pair of blocks: the second is refused exactly if the two would share a line or a slab of two classes.
func TestP7_3_NoTwoBlocksOverlap(t *testing.T) {
	for c1, span1 := range wantSpans {
		for c2, span2 := range wantSpans {
			for line1 := 2; line1 < 18; line1 += span1 {
				for line2 := 2; line2 < 18; line2 += span2 {
					p := made(t, 2)
					p.Mark(line1, c1)
					e := p.Mark(line2, c2)
					disjoint(t, "Mark", p)
					sameSlab := (line1-2)/8 == (line2-2)/8
					overlap := line1 < line2+span2 && line2 < line1+span1
					want := api.OK
					if sameSlab && c1 != c2 || overlap {
						want = api.ErrBusy
					}
					if e != want {
						t.Errorf("Mark(%d, %d), Mark(%d, %d) = %d, want %d", line1, c1, line2, c2, e, want)
					}
				}
			}
		}
	}
}

func TestR3_NoPool(t *testing.T) {
	var p *Pool
	for _, n := range append(noClasses(), 0, 1, 2, 3, 10) {
		if line, e := p.Take(n); line != 0 || e != api.ErrArg {
			t.Errorf("Take(%d) of no pool: %d, %d", n, line, e)
		}
		if e := p.Give(n); e != api.ErrArg {
			t.Errorf("Give(%d) of no pool: %d", n, e)
		}
		if e := p.Mark(2, n); e != api.ErrArg {
			t.Errorf("Mark(2, %d) of no pool: %d", n, e)
		}
		if c, ok := p.Of(n); c != 0 || ok {
			t.Errorf("Of(%d) of no pool: %d, %v", n, c, ok)
		}
		if p.Free(n) != nil || p.Room(n) {
			t.Errorf("no pool: Free(%d) = %v, Room %v", n, p.Free(n), p.Room(n))
		}
	}
	if p.Taken() != nil || p.Slabs() != nil {
		t.Errorf("no pool: Taken %v, Slabs %v", p.Taken(), p.Slabs())
	}
}

// A pool that New did not make has no slabs; nothing is promised for it but an answer.
func TestR1_AnotherPool(t *testing.T) {
	p := &Pool{}
	for n := -1; n <= 4; n++ {
		p.Take(n)
		p.Give(n)
		p.Mark(2, n)
		p.Of(n)
		p.Free(n)
		p.Room(n)
	}
	p.Taken()
	p.Slabs()
}

// spoil writes over a slice and over the capacity behind it, and appends to it.
func spoil[T any](s []T, with T) {
	whole := s[:cap(s)]
	for i := range whole {
		whole[i] = with
	}
	_ = append(s[:0], with, with)
	_ = append(s, with, with)
}

// Whoever got an answer may write over it and append to it: the pool and every other answer stay as they were.
func TestR4_MemoryIsNotShared(t *testing.T) {
	for _, slabs := range []int{1, 2, 32} {
		x := newPair(t, slabs)
		next := chance(uint64(slabs))
		for range 8 * slabs {
			x.take(next(4))
			x.give(2 + next(8*slabs))
			taken, classes := x.p.Taken(), x.p.Slabs()
			free := [4][]int{x.p.Free(0), x.p.Free(1), x.p.Free(2), x.p.Free(3)}
			spoil(x.p.Taken(), api.Taken{Line: -7, Class: 9})
			spoil(x.p.Slabs(), -8)
			for c := range free {
				spoil(x.p.Free(c), -9)
			}
			x.m.same(t, "answers that were written over", x.p)
			if !slices.Equal(taken, x.p.Taken()) || !slices.Equal(classes, x.p.Slabs()) {
				t.Fatalf("earlier answers became %v, %v", taken, classes)
			}
			for c := range free {
				if !slices.Equal(free[c], x.p.Free(c)) {
					t.Fatalf("an earlier Free(%d) became %v", c, free[c])
				}
			}
		}
	}
}

// An answer tells how the pool was: later calls do not change it.
func TestR4_AnswersStay(t *testing.T) {
	p := made(t, 2)
	p.Mark(4, 1)
	taken, classes, free := p.Taken(), p.Slabs(), p.Free(1)
	p.Take(1)
	p.Take(0)
	p.Give(4)
	p.Mark(8, 1)
	if !slices.Equal(taken, []api.Taken{{Line: 4, Class: 1}}) || !slices.Equal(classes, []int{1, -1}) || !slices.Equal(free, []int{2, 6, 8}) {
		t.Errorf("answers became %v, %v, %v", taken, classes, free)
	}
}

// Pools of several goroutines do not disturb each other.
func TestR5_ManyGoroutines(t *testing.T) {
	var wait sync.WaitGroup
	for g := range 8 {
		wait.Go(func() {
			p, e := New(g + 1)
			if e != api.OK {
				t.Errorf("New(%d): %d", g+1, e)
				return
			}
			for line := 2; line < 2+8*(g+1); line += wantSpans[g%4] {
				takes(t, p, g%4, line)
			}
			if p.Room(g % 4) {
				t.Errorf("goroutine %d: %v", g, p.Taken())
			}
		})
	}
	wait.Wait()
}
