package class

import (
	"math"
	"slices"
	"sync"
	"testing"

	"fusee/api"
	"fusee/geom"
)

// The classes as the chapter says them, written out.
var (
	wantSpans = [4]int{1, 2, 4, 8}
	wantCaps  = [4]int{28, 91, 217, 469}
)

// noClasses returns numbers that are no class: those beside the classes, those that are a class in their low bits, and the ends.
func noClasses() []int {
	all := []int{-1, -2, -3, -4, 4, 5, 7, 8, 63, 64, 65, -64, 1 << 8, 1<<8 + 1, 1<<16 + 2, 1<<32 + 3, -1 << 32, math.MaxInt, math.MaxInt - 1, math.MinInt, math.MinInt + 1, math.MinInt + 3}
	for c := range 300 {
		all = append(all, -1-c, 4+c)
	}
	return all
}

// noSlabs returns numbers that are no slab.
func noSlabs() []int {
	all := []int{-1, -2, -32, 32, 33, 63, 64, 1 << 32, 1<<32 + 1, 1 << 61, -1 << 61, math.MaxInt, math.MaxInt - 1, math.MinInt, math.MinInt + 1}
	for k := range 300 {
		all = append(all, -1-k, 32+k)
	}
	return all
}

// farLines returns lines that no slab contains.
func farLines() []int {
	return []int{0, 1, -1, -2, -6, -8, 258, 259, 260, 266, 1 << 20, 1 << 32, 1<<32 + 2, 1<<61 + 2, -1 << 32, math.MaxInt, math.MaxInt - 5, math.MinInt, math.MinInt + 1, math.MinInt + 2}
}

func TestExamples(t *testing.T) {
	for _, x := range []struct {
		what      string
		got, want int
	}{
		{"Span(3)", Span(3), 8},
		{"Cap(0)", Cap(0), 28},
		{"Cap(3)", Cap(3), 469},
		{"Need(28)", Need(28), 0},
		{"Need(29)", Need(29), 1},
		{"Need(470)", Need(470), -1},
	} {
		if x.got != x.want {
			t.Errorf("%s = %d, want %d", x.what, x.got, x.want)
		}
	}
	if got := Starts(0, 2); !slices.Equal(got, []int{2, 6}) {
		t.Errorf("Starts(0, 2) = %v", got)
	}
	if got := Starts(1, 3); !slices.Equal(got, []int{10}) {
		t.Errorf("Starts(1, 3) = %v", got)
	}
	if !Home(4, 1) || Home(3, 1) {
		t.Errorf("Home(4, 1) = %v, Home(3, 1) = %v", Home(4, 1), Home(3, 1))
	}
}

func TestP5_1_SpanAndCap(t *testing.T) {
	for c := range api.Classes {
		if Span(c) != wantSpans[c] || Cap(c) != wantCaps[c] {
			t.Errorf("class %d: Span %d, Cap %d, want %d, %d", c, Span(c), Cap(c), wantSpans[c], wantCaps[c])
		}
		// What the lines hold, one after the other.
		held := 0
		for line := range Span(c) {
			if line == 0 {
				held += api.HeadData
			} else {
				held += api.LineData
			}
		}
		if Cap(c) != held {
			t.Errorf("Cap(%d) = %d, its lines hold %d", c, Cap(c), held)
		}
	}
	for _, c := range noClasses() {
		if Span(c) != 0 || Cap(c) != 0 {
			t.Errorf("no class %d: Span %d, Cap %d", c, Span(c), Cap(c))
		}
	}
}

func TestP5_1_NeedAtTheEdges(t *testing.T) {
	for n, want := range map[int]int{
		0: 0, 1: 0, 27: 0, 28: 0,
		29: 1, 90: 1, 91: 1,
		92: 2, 216: 2, 217: 2,
		218: 3, api.MaxValue: 3, api.MaxKey + api.MaxValue: 3, 468: 3, 469: 3,
		470: -1, 471: -1, 512: -1, 1 << 16: -1, 1 << 32: -1, 1<<32 + 28: -1, 1 << 40: -1, math.MaxInt: -1, math.MaxInt - 1: -1,
		-1: -1, -2: -1, -28: -1, -469: -1, -1 << 32: -1, math.MinInt: -1, math.MinInt + 1: -1, math.MinInt + 28: -1,
	} {
		if got := Need(n); got != want {
			t.Errorf("Need(%d) = %d, want %d", n, got, want)
		}
	}
}

// Need's answer holds n bytes, and no smaller class does.
func TestP5_1_NeedOfEveryNumber(t *testing.T) {
	for n := -1000; n <= 1000; n++ {
		got := Need(n)
		if n < 0 || n > 469 {
			if got != -1 {
				t.Errorf("Need(%d) = %d", n, got)
			}
			continue
		}
		if got < 0 || got > 3 {
			t.Errorf("Need(%d) = %d", n, got)
			continue
		}
		if wantCaps[got] < n || got > 0 && wantCaps[got-1] >= n {
			t.Errorf("Need(%d) = %d, whose Cap is %d", n, got, wantCaps[got])
		}
	}
}

func TestP5_2_StartsAtTheEdges(t *testing.T) {
	for _, x := range []struct {
		k, c int
		want []int
	}{
		{0, 0, []int{2, 3, 4, 5, 6, 7, 8, 9}},
		{0, 1, []int{2, 4, 6, 8}},
		{0, 2, []int{2, 6}},
		{0, 3, []int{2}},
		{1, 0, []int{10, 11, 12, 13, 14, 15, 16, 17}},
		{1, 1, []int{10, 12, 14, 16}},
		{1, 2, []int{10, 14}},
		{31, 0, []int{250, 251, 252, 253, 254, 255, 256, 257}},
		{31, 1, []int{250, 252, 254, 256}},
		{31, 2, []int{250, 254}},
		{31, 3, []int{250}},
	} {
		if got := Starts(x.k, x.c); !slices.Equal(got, x.want) {
			t.Errorf("Starts(%d, %d) = %v, want %v", x.k, x.c, got, x.want)
		}
	}
}

// The blocks of a slab, laid end to end in the order of Starts, fill it.
func TestP5_2_StartsFillEverySlab(t *testing.T) {
	for k := range 32 {
		for c, span := range wantSpans {
			next := 2 + 8*k
			for _, start := range Starts(k, c) {
				if start != next {
					t.Errorf("Starts(%d, %d) = %v", k, c, Starts(k, c))
					break
				}
				next += span
			}
			if next != 2+8*(k+1) {
				t.Errorf("Starts(%d, %d) = %v ends at line %d", k, c, Starts(k, c), next)
			}
		}
	}
}

func TestP5_2_StartsOfNone(t *testing.T) {
	slabs := append(noSlabs(), 0, 1, 31)
	for _, k := range slabs {
		for _, c := range noClasses() {
			if got := Starts(k, c); len(got) != 0 {
				t.Errorf("Starts(%d, %d) = %v", k, c, got)
			}
		}
	}
	for _, k := range noSlabs() {
		for c := range 4 {
			if got := Starts(k, c); len(got) != 0 {
				t.Errorf("Starts(%d, %d) = %v", k, c, got)
			}
		}
	}
}

func TestP5_2_HomeOfEveryLine(t *testing.T) {
	for c, span := range wantSpans {
		want := map[int]int{}
		for line := 2; line < 258; line += span {
			want[line]++
		}
		for line := -300; line <= 600; line++ {
			if got := Home(line, c); got != (want[line] == 1) {
				t.Errorf("Home(%d, %d) = %v", line, c, got)
			}
		}
		for _, line := range farLines() {
			if Home(line, c) {
				t.Errorf("Home(%d, %d) = true", line, c)
			}
		}
		if Home(api.MaxLines, c) || Home(api.FirstLine-1, c) || !Home(api.FirstLine, c) || Home(api.MaxLines-1, c) != (c == 0) {
			t.Errorf("class %d: the edges of the slabs", c)
		}
	}
}

func TestP5_2_HomeOfNoClass(t *testing.T) {
	lines := append(farLines(), 2, 3, 4, 6, 9, 10, 250, 257)
	for _, line := range lines {
		for _, c := range noClasses() {
			if Home(line, c) {
				t.Errorf("Home(%d, %d) = true", line, c)
			}
		}
	}
}

// Home is told by Starts: a line is a home exactly if the slab that contains it lists the line.
func TestP5_2_HomeAndStarts(t *testing.T) {
	for line := -20; line <= 300; line++ {
		for c := -2; c <= 6; c++ {
			want := slices.Contains(Starts(geom.SlabOf(line), c), line)
			if got := Home(line, c); got != want {
				t.Errorf("Home(%d, %d) = %v, want %v", line, c, got, want)
			}
		}
	}
}

// Whoever got an answer may write over it and append to it: no other answer changes.
func TestP5_2_MemoryIsNotShared(t *testing.T) {
	for k := range 32 {
		for c := range 4 {
			before := Starts(k, c)
			want := slices.Clone(before)
			spoiled := Starts(k, c)
			for i := range spoiled {
				spoiled[i] = -7
			}
			whole := spoiled[:cap(spoiled)]
			for i := range whole {
				whole[i] = -8
			}
			_ = append(spoiled[:0], 1, 2, 3)
			_ = append(spoiled, 4, 5, 6)
			if after := Starts(k, c); !slices.Equal(before, want) || !slices.Equal(after, want) {
				t.Errorf("Starts(%d, %d) became %v, %v, want %v", k, c, before, after, want)
			}
			for _, line := range want {
				if !Home(line, c) {
					t.Errorf("Home(%d, %d) = false", line, c)
				}
			}
		}
	}
	none := Starts(-1, 0)
	none = append(none, 9)
	if got := Starts(-1, 0); len(got) != 0 || len(none) != 1 {
		t.Errorf("Starts(-1, 0) became %v", got)
	}
}

func TestManyGoroutines(t *testing.T) {
	var wait sync.WaitGroup
	for g := range 8 {
		wait.Go(func() {
			for k := range 32 {
				c := (g + k) % 4
				starts := Starts(k, c)
				if len(starts)*Span(c) != 8 || Need(Cap(c)) != c {
					t.Errorf("goroutine %d: Starts(%d, %d) = %v, Need(%d) = %d", g, k, c, starts, Cap(c), Need(Cap(c)))
				}
				for i := range starts {
					if !Home(starts[i], c) {
						t.Errorf("goroutine %d: Home(%d, %d) = false", g, starts[i], c)
					}
					starts[i] = g
				}
			}
		})
	}
	wait.Wait()
}
