package fifo

import (
	"slices"
	"testing"

	"fusee/api"
)

// ringOf returns a ring of so many places, all free, with place first the one that is used next.
func ringOf(places, first int) *ring[int] {
	return &ring[int]{places: make([]int, places), first: first}
}

// has fails the test if the ring does not hold these items.
func has(t *testing.T, r *ring[int], want []int) {
	t.Helper()
	if all := r.all(); !slices.Equal(all, want) || r.count != len(want) {
		t.Fatalf("the ring holds %v, %d in all, want %v", all, r.count, want)
	}
	if x, ok := r.head(); ok != (len(want) > 0) || ok && x != want[0] || !ok && x != 0 {
		t.Fatalf("head = %d, %v, want the first of %v", x, ok, want)
	}
}

// takes pops so many items and fails the test if they are not the first of these.
func takes(t *testing.T, r *ring[int], n int, want []int) {
	t.Helper()
	for i := range n {
		if x, ok := r.pop(); !ok || x != want[i] {
			t.Fatalf("pop = %d, %v, want %d", x, ok, want[i])
		}
	}
	has(t, r, want[n:])
}

// Rings of every few places, beginning at every place: filled, then one more, then many more, and emptied from the front, each number of times before.
func TestRing_FullAtEveryPlace(t *testing.T) {
	for places := 1; places <= 9; places++ {
		for first := range places {
			for before := range places + 1 {
				r, want := ringOf(places, first), []int(nil)
				push := func(n int) {
					for range n {
						x := 100 + len(want)
						r.push(x)
						want = append(want, x)
						has(t, r, want)
					}
				}
				push(places)
				if len(r.places) != places {
					t.Fatalf("%d items took %d places of %d", places, len(r.places), places)
				}
				takes(t, r, before, want)
				want = want[before:]
				push(before + 1)
				if len(r.places) <= places {
					t.Fatalf("%d items have %d places", places+1, len(r.places))
				}
				push(3 * places)
				takes(t, r, len(want), want)
			}
		}
	}
}

// Rings of which so many places are in use, from every place on, while many items go through: no place is ever added.
func TestRing_GoesThrough(t *testing.T) {
	for places := 1; places <= 9; places++ {
		for first := range places {
			for waiting := 1; waiting <= places; waiting++ {
				r, want := ringOf(places, first), []int(nil)
				for x := range 4 * places {
					r.push(x)
					want = append(want, x)
					has(t, r, want)
					if len(want) == waiting {
						takes(t, r, 1, want)
						want = want[1:]
					}
				}
				if len(r.places) != places {
					t.Fatalf("%d waiting items have %d places, want %d", waiting, len(r.places), places)
				}
			}
		}
	}
}

// What is popped is no longer kept, wherever it was, and neither is it behind a growth.
func TestRing_KeepsNothingGone(t *testing.T) {
	var r ring[api.Link]
	kept := func() int {
		n := 0
		for _, x := range r.places[:cap(r.places)] {
			if x != (api.Link{}) {
				n++
			}
		}
		return n
	}
	d := dice(3)
	for i := range 3000 {
		if d.upTo(100) < 30+i/500%2*40 {
			r.push(link(i))
		} else {
			r.pop()
		}
		if n := kept(); n != r.count {
			t.Fatalf("%d links are kept, and %d are in the list", n, r.count)
		}
	}
}

// The places are few more than the most items that ever waited, however many have gone through.
func TestRing_FewPlaces(t *testing.T) {
	for most := 1; most <= 40; most++ {
		var r ring[int]
		for x := range 100 * most {
			r.push(x)
			if r.count == most {
				r.pop()
			}
		}
		if n := len(r.places); n > 2*most+1 {
			t.Errorf("at most %d items waited, and there are %d places", most, n)
		}
	}
}

// In a long row of pushes the ring grows seldom, so that items are not moved at each of them.
func TestRing_GrowsSeldom(t *testing.T) {
	var r ring[int]
	grown, before := 0, 0
	for x := range 100000 {
		r.push(x)
		if n := len(r.places); n != before {
			grown, before = grown+1, n
		}
	}
	if grown > 20 {
		t.Errorf("the ring grew %d times", grown)
	}
}

// A ring of anything: texts, and slices, that nobody could compare.
func TestRing_OfOtherTypes(t *testing.T) {
	var words ring[string]
	var rows ring[[]int]
	for i, word := range []string{"a", "", "b", "c", "", "d"} {
		words.push(word)
		rows.push(make([]int, i))
	}
	words.pop()
	if all := words.all(); !slices.Equal(all, []string{"", "b", "c", "", "d"}) {
		t.Errorf("the words are %q", all)
	}
	for i := range 6 {
		if row, ok := rows.pop(); len(row) != i || !ok {
			t.Errorf("row %d has the length %d, %v", i, len(row), ok)
		}
	}
	if row, ok := rows.pop(); row != nil || ok {
		t.Errorf("an empty ring has %v, %v", row, ok)
	}
}
