package arena

import (
	"cmp"
	"slices"

	"fusee/api"
)

// Effects returns all effects in the order in which they were published.
func (a *Arena) Effects() []api.Effect {
	if a == nil {
		return nil
	}
	return slices.Clone(a.effects)
}

// Shelf returns the abstract store that the volatile copies of the linked blocks hold.
func (a *Arena) Shelf() api.Shelf {
	if a == nil {
		return api.Shelf{}
	}
	var s api.Shelf
	for _, k := range a.table.All() {
		if b, ok := a.read(k, api.KindMap); ok {
			s.Pairs = append(s.Pairs, api.Pair{Key: b.Key, Value: b.Value})
		}
	}
	for _, k := range a.line.All() {
		if b, ok := a.read(k, api.KindQueue); ok {
			s.Queue = append(s.Queue, b.Value)
		}
	}
	return s
}

// Rooms returns the blocks by what they are, with the blocks that calls hold as they are handed in.
func (a *Arena) Rooms(private []api.Taken) api.Rooms {
	if a == nil {
		return api.Rooms{}
	}
	return api.Rooms{
		Taken:   a.pool.Taken(),
		Live:    byPlace(a.live()),
		Limbo:   byPlace(a.limbo()),
		Antis:   byPlace(a.antis()),
		Private: byPlace(private),
	}
}

// byPlace returns a copy of l by rising lines and then by classes.
func byPlace(l []api.Taken) []api.Taken {
	return slices.SortedFunc(slices.Values(l), func(x, y api.Taken) int {
		return cmp.Or(cmp.Compare(x.Line, y.Line), cmp.Compare(x.Class, y.Class))
	})
}

// live returns the blocks that the indexes refer to.
func (a *Arena) live() []api.Taken {
	var l []api.Taken
	for _, k := range append(a.table.All(), a.line.All()...) {
		l = append(l, api.Taken{Line: k.Line, Class: k.Class})
	}
	return l
}

// limbo returns the blocks of the entries of the bag.
func (a *Arena) limbo() []api.Taken {
	var l []api.Taken
	for _, x := range a.bag.All() {
		l = append(l, api.Taken{Line: x.Line, Class: x.Class})
	}
	return l
}

// antis returns the blocks that cancel entries of the bag.
func (a *Arena) antis() []api.Taken {
	var l []api.Taken
	for _, x := range a.bag.All() {
		if x.Anti != noAnti {
			l = append(l, api.Taken{Line: x.Anti, Class: antiClass})
		}
	}
	return l
}

// used returns the lines at which the blocks start that no call may write any more.
func (a *Arena) used() []int {
	var lines []int
	for _, x := range slices.Concat(a.live(), a.limbo(), a.antis()) {
		lines = append(lines, x.Line)
	}
	return lines
}
