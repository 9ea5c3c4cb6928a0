package ideal

import (
	"slices"

	"fusee/api"
)

// callEffect makes of a store what a valid call makes of it, and returns the call's answer. The store's lists are its own to change.
type callEffect func(s *api.Shelf, c api.Call) api.Answer

// callEffects returns the effect of each kind of call.
func callEffects() map[int]callEffect {
	return map[int]callEffect{
		api.CallGet:   applyGet,
		api.CallPut:   applyPut,
		api.CallDel:   applyDel,
		api.CallEnq:   applyEnq,
		api.CallDeq:   applyDeq,
		api.CallScan:  applyScan,
		api.CallGroup: applyGroup,
		api.CallSync:  applySync,
	}
}

func applyGet(s *api.Shelf, c api.Call) api.Answer {
	value, found := Get(*s, c.Key)
	return api.Answer{Found: found, Value: value}
}

func applyPut(s *api.Shelf, c api.Call) api.Answer {
	return api.Answer{Found: set(s, c.Key, c.Value)}
}

func applyDel(s *api.Shelf, c api.Call) api.Answer {
	return api.Answer{Found: drop(s, c.Key)}
}

func applyEnq(s *api.Shelf, c api.Call) api.Answer {
	push(s, c.Value)
	return api.Answer{}
}

func applyDeq(s *api.Shelf, c api.Call) api.Answer {
	value, found := pop(s)
	return api.Answer{Found: found, Value: value}
}

func applyScan(s *api.Shelf, c api.Call) api.Answer {
	var pairs []api.Pair
	for _, p := range s.Pairs {
		if p.Key >= c.Key && (c.To == "" || p.Key < c.To) {
			pairs = append(pairs, p)
		}
	}
	return api.Answer{Pairs: pairs}
}

func applyGroup(s *api.Shelf, c api.Call) api.Answer {
	effects := callEffects()
	hits := make([]bool, len(c.Group))
	for i, member := range c.Group {
		hits[i] = effects[member.Kind](s, member).Found
	}
	return api.Answer{Hits: hits}
}

func applySync(*api.Shelf, api.Call) api.Answer { return api.Answer{} }

// set makes value the value of the first pair with this key, or inserts a pair, and reports whether there was one.
func set(s *api.Shelf, key, value string) bool {
	if at := find(s.Pairs, key); at >= 0 {
		s.Pairs[at].Value = value
		return true
	}
	at := slices.IndexFunc(s.Pairs, func(p api.Pair) bool { return p.Key > key })
	if at < 0 {
		at = len(s.Pairs)
	}
	s.Pairs = slices.Insert(s.Pairs, at, api.Pair{Key: key, Value: value})
	return false
}

// drop removes all pairs with this key and reports whether there were any.
func drop(s *api.Shelf, key string) bool {
	had := len(s.Pairs)
	s.Pairs = slices.DeleteFunc(s.Pairs, func(p api.Pair) bool { return p.Key == key })
	return len(s.Pairs) < had
}

// push appends a value to the queue.
func push(s *api.Shelf, value string) { s.Queue = append(s.Queue, value) }

// pop removes the first value of the queue, if there is one, and returns it.
func pop(s *api.Shelf) (string, bool) {
	if len(s.Queue) == 0 {
		return "", false
	}
	value := s.Queue[0]
	s.Queue = slices.Delete(s.Queue, 0, 1)
	return value, true
}

// find returns the index of the first pair with this key, or -1. The pairs need not be in order, so that it goes through them.
func find(pairs []api.Pair, key string) int {
	return slices.IndexFunc(pairs, func(p api.Pair) bool { return p.Key == key })
}
