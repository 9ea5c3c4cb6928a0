package palloc

import (
	"math"
	"slices"
	"testing"

	"fusee/api"
)

// The spans as chapter 5 says them, written out.
var wantSpans = [4]int{1, 2, 4, 8}

// model is the chapter's pool, written another way: the allocated blocks as a list in no order. All that a slab is follows from it.
type model struct {
	slabs  int
	blocks []api.Taken
}

// at returns where in the list the block is that starts at line, or -1.
func (m *model) at(line int) int {
	return slices.IndexFunc(m.blocks, func(b api.Taken) bool { return b.Line == line })
}

// slab returns the class of slab k, or -1.
func (m *model) slab(k int) int {
	for _, b := range m.blocks {
		if b.Line >= 2+8*k && b.Line < 2+8*(k+1) {
			return b.Class
		}
	}
	return -1
}

// free returns the lines of the blocks that Free returns.
func (m *model) free(c int) []int {
	var lines []int
	for line := 2; line < 2+8*m.slabs; line++ {
		if c >= 0 && c <= 3 && (line-2)%wantSpans[c] == 0 && m.slab((line-2)/8) == c && m.at(line) < 0 {
			lines = append(lines, line)
		}
	}
	return lines
}

// empty returns the first line of the lowest empty slab, or -1.
func (m *model) empty() int {
	for k := range m.slabs {
		if m.slab(k) == -1 {
			return 2 + 8*k
		}
	}
	return -1
}

func (m *model) take(c int) (int, api.Errno) {
	if c < 0 || c > 3 {
		return 0, api.ErrArg
	}
	line := m.empty()
	if free := m.free(c); len(free) > 0 {
		line = free[0]
	}
	if line < 0 {
		return 0, api.ErrNoSpace
	}
	m.blocks = append(m.blocks, api.Taken{Line: line, Class: c})
	return line, api.OK
}

func (m *model) give(line int) api.Errno {
	i := m.at(line)
	if i < 0 {
		return api.ErrArg
	}
	m.blocks = slices.Delete(m.blocks, i, i+1)
	return api.OK
}

func (m *model) mark(line, c int) api.Errno {
	if c < 0 || c > 3 || line < 2 || line >= 2+8*m.slabs || (line-2)%wantSpans[c] != 0 {
		return api.ErrArg
	}
	if k := m.slab((line - 2) / 8); k != -1 && k != c || m.at(line) >= 0 {
		return api.ErrBusy
	}
	m.blocks = append(m.blocks, api.Taken{Line: line, Class: c})
	return api.OK
}

// taken returns the blocks by their lines.
func (m *model) taken() []api.Taken {
	all := slices.Clone(m.blocks)
	slices.SortFunc(all, func(a, b api.Taken) int { return a.Line - b.Line })
	return all
}

// room reports whether take would return a block.
func (m *model) room(c int) bool {
	_, e := (&model{m.slabs, slices.Clone(m.blocks)}).take(c)
	return e == api.OK
}

// same fails the test if the pool is not as the model says, in all that can be asked of it.
func (m *model) same(t *testing.T, what string, p *Pool) {
	t.Helper()
	if got := p.Taken(); !slices.Equal(got, m.taken()) {
		t.Fatalf("%s: Taken is %v, want %v", what, got, m.taken())
	}
	var classes []int
	for k := range m.slabs {
		classes = append(classes, m.slab(k))
	}
	if got := p.Slabs(); !slices.Equal(got, classes) {
		t.Fatalf("%s: Slabs is %v, want %v", what, got, classes)
	}
	for c := -1; c <= 4; c++ {
		if got := p.Free(c); !slices.Equal(got, m.free(c)) {
			t.Fatalf("%s: Free(%d) = %v, want %v", what, c, got, m.free(c))
		}
		if got := p.Room(c); got != m.room(c) {
			t.Fatalf("%s: Room(%d) = %v", what, c, got)
		}
	}
	for line := -1; line <= 2+8*m.slabs+9; line++ {
		want := api.Taken{}
		i := m.at(line)
		if i >= 0 {
			want = m.blocks[i]
		}
		if c, ok := p.Of(line); c != want.Class || ok != (i >= 0) {
			t.Fatalf("%s: Of(%d) = %d, %v, want %v", what, line, c, ok, want)
		}
	}
	disjoint(t, what, p)
}

// disjoint fails the test if two allocated blocks have a line in common, or a block leaves the slabs of the pool.
func disjoint(t *testing.T, what string, p *Pool) {
	t.Helper()
	var owners [258]int
	for _, b := range p.Taken() {
		if b.Class < 0 || b.Class > 3 || b.Line < 2 || b.Line+wantSpans[b.Class] > 2+8*len(p.Slabs()) {
			t.Fatalf("%s: a block %v", what, b)
		}
		for line := b.Line; line < b.Line+wantSpans[b.Class]; line++ {
			if owners[line] != 0 {
				t.Fatalf("%s: line %d is in the blocks at %d and at %d", what, line, owners[line], b.Line)
			}
			owners[line] = b.Line
		}
	}
}

// pair is a pool and its model; each call goes to both and is held against each other.
type pair struct {
	t *testing.T
	p *Pool
	m *model
}

func newPair(t *testing.T, slabs int) pair {
	t.Helper()
	x := pair{t, made(t, slabs), &model{slabs: slabs}}
	x.m.same(t, "a new pool", x.p)
	return x
}

func (x pair) take(c int) (int, api.Errno) {
	x.t.Helper()
	room := x.p.Room(c)
	line, e := x.p.Take(c)
	if room != (e == api.OK) {
		x.t.Fatalf("Room(%d) was %v, then Take(%d) = %d, %d", c, room, c, line, e)
	}
	if wantLine, want := x.m.take(c); line != wantLine || e != want {
		x.t.Fatalf("Take(%d) = %d, %d, want %d, %d", c, line, e, wantLine, want)
	}
	x.m.same(x.t, "Take", x.p)
	return line, e
}

func (x pair) give(line int) api.Errno {
	x.t.Helper()
	e := x.p.Give(line)
	if want := x.m.give(line); e != want {
		x.t.Fatalf("Give(%d) = %d, want %d", line, e, want)
	}
	x.m.same(x.t, "Give", x.p)
	return e
}

func (x pair) mark(line, c int) api.Errno {
	x.t.Helper()
	e := x.p.Mark(line, c)
	if want := x.m.mark(line, c); e != want {
		x.t.Fatalf("Mark(%d, %d) = %d, want %d", line, c, e, want)
	}
	x.m.same(x.t, "Mark", x.p)
	return e
}

// noClasses returns numbers that are no class: those beside the classes, those that are a class in their low bits, and the ends.
func noClasses() []int {
	return []int{-1, -2, -3, -4, -64, -1 << 32, 4, 5, 7, 8, 63, 64, 65, 1 << 8, 1<<8 + 1, 1<<16 + 2, 1<<32 + 3, math.MaxInt, math.MaxInt - 1, math.MinInt, math.MinInt + 1, math.MinInt + 3}
}

// noLines returns lines that no slab of any pool contains.
func noLines() []int {
	return []int{0, 1, -1, -2, -6, -8, 258, 259, 260, 266, 1 << 20, 1 << 32, 1<<32 + 2, 1<<61 + 2, -1 << 32, -1<<32 + 2, math.MaxInt, math.MaxInt - 5, math.MinInt, math.MinInt + 1, math.MinInt + 2}
}

// chance returns a source of numbers that follows a rule, the same each time.
func chance(seed uint64) func(n int) int {
	return func(n int) int {
		seed = seed*6364136223846793005 + 1442695040888963407
		return int(seed>>33) % n
	}
}

// Many calls of every kind, in pools of every kind of size, each held against the model.
func TestManyCalls(t *testing.T) {
	for _, slabs := range []int{1, 2, 3, 7, 31, 32} {
		for seed := range 6 {
			x, next := newPair(t, slabs), chance(uint64(100*slabs+seed))
			line := func() int { return next(8*slabs+14) - 3 }
			for range 300 {
				switch n := next(10); {
				case n < 3:
					x.take(next(4))
				case n < 4:
					x.take(next(7) - 2)
				case n < 6:
					x.mark(line(), next(6)-1)
				case n < 7:
					x.give(line())
				case len(x.m.blocks) > 0:
					x.give(x.m.blocks[next(len(x.m.blocks))].Line)
				}
			}
		}
	}
}

// The same calls make the same pool, whatever other pools were asked meanwhile.
func TestPoolsStandAlone(t *testing.T) {
	first, second, other := newPair(t, 4), newPair(t, 4), newPair(t, 4)
	next := chance(7)
	for i := range 200 {
		c, line := next(4), 2+next(32)
		first.take(c)
		other.mark(line, (c+1)%4)
		if i%3 == 0 {
			first.give(line)
			second.take(c)
			second.give(line)
		} else {
			second.take(c)
			other.give(2 + next(32))
		}
		first.m.same(t, "a second pool that was asked the same", second.p)
	}
}
