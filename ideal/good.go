package ideal

import (
	"slices"

	"fusee/api"
)

// Good returns the first error of the call c: ErrArg of any of its calls is told ahead of any length.
func Good(c api.Call) api.Errno {
	switch {
	case !isFormed(c):
		return api.ErrArg
	case isTooBig(c):
		return api.ErrTooBig
	}
	return api.OK
}

// isFormed reports whether c is what a call of its kind must be, but for lengths.
func isFormed(c api.Call) bool {
	switch c.Kind {
	case api.CallGet, api.CallPut, api.CallDel:
		return c.Key != ""
	case api.CallEnq, api.CallDeq, api.CallScan, api.CallSync:
		return true
	case api.CallGroup:
		return isGroup(c.Group)
	}
	return false
}

// isGroup reports whether a call may have this group, but for lengths.
func isGroup(l []api.Call) bool {
	if len(l) == 0 || len(l) > api.MaxGroup {
		return false
	}
	for i, c := range l {
		if !isMember(c) || sharesKey(l[:i], c) {
			return false
		}
	}
	return true
}

// isMember reports whether c may stand in a group, but for lengths.
func isMember(c api.Call) bool {
	return (changesKey(c) || c.Kind == api.CallEnq) && isFormed(c)
}

// sharesKey reports whether c and one of the calls of l change the same key.
func sharesKey(l []api.Call, c api.Call) bool {
	return changesKey(c) && slices.ContainsFunc(l, func(x api.Call) bool { return changesKey(x) && x.Key == c.Key })
}

// changesKey reports whether c is of a kind that changes what is held under its key.
func changesKey(c api.Call) bool { return c.Kind == api.CallPut || c.Kind == api.CallDel }

// isTooBig reports whether a key, a bound or a value of c is too long. It asks for a call that is formed.
func isTooBig(c api.Call) bool {
	switch c.Kind {
	case api.CallGet, api.CallDel:
		return isLongKey(c.Key)
	case api.CallPut:
		return isLongKey(c.Key) || isLongValue(c.Value)
	case api.CallEnq:
		return isLongValue(c.Value)
	case api.CallScan:
		return isLongKey(c.Key) || isLongKey(c.To)
	case api.CallGroup:
		return slices.ContainsFunc(c.Group, isTooBig)
	}
	return false
}

// isLongKey reports whether key has more bytes than a key may have.
func isLongKey(key string) bool { return len(key) > api.MaxKey }

// isLongValue reports whether value has more bytes than a value may have.
func isLongValue(value string) bool { return len(value) > api.MaxValue }
