package eval

import "filigree/api"

// fromBelow goes through an expression, parts ahead of what they are parts of, and makes something of each node and of what became of its parts.
func fromBelow[R any](e api.E, become func(e api.E, parts []R) R) R {
	var parts []R
	if len(e.L) > 0 {
		parts = make([]R, len(e.L))
	}
	for k, part := range e.L {
		parts[k] = fromBelow(part, become)
	}
	return become(e, parts)
}
