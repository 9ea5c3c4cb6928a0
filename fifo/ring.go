package fifo

// ring is a list of items in the places of a slice: they lie one behind another from place first on, the place behind the last one being place 0.
type ring[T any] struct {
	places []T
	first  int
	count  int
}

// push appends x.
func (r *ring[T]) push(x T) {
	if r.count == len(r.places) {
		r.grow()
	}
	r.places[r.place(r.count)] = x
	r.count++
}

// head returns the first item, if there is one.
func (r *ring[T]) head() (T, bool) {
	if r.count == 0 {
		var none T
		return none, false
	}
	return r.places[r.first], true
}

// pop removes the first item, if there is one, and returns it.
func (r *ring[T]) pop() (T, bool) {
	x, ok := r.head()
	if ok {
		// What is gone is not to be kept until its place is used again.
		clear(r.places[r.first : r.first+1])
		r.first = r.place(1)
		r.count--
	}
	return x, ok
}

// all returns the items in order.
func (r *ring[T]) all() []T {
	all := make([]T, r.count)
	for i := range all {
		all[i] = r.places[r.place(i)]
	}
	return all
}

// place returns the place of item i, or of the one that is pushed next. It asks for a slice that has places.
func (r *ring[T]) place(i int) int { return (r.first + i) % len(r.places) }

// grow puts the items in order and appends more places than there were, so that in a long row of pushes few items are moved.
func (r *ring[T]) grow() {
	// The items have to begin at place 0, since the new places may lie nowhere but behind the last one.
	r.places = append(r.all(), make([]T, len(r.places)+1)...)
	r.first = 0
}
