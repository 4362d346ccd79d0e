package mill

import "apiary/api"

// stack is the blobs of a code that is run, the top last.
type stack []string

// put: a blob comes to the top; ErrStack, ErrWide.
func (s *stack) put(blob string) api.Errno {
	if len(*s) >= api.MaxStack {
		return api.ErrStack
	}
	if len(blob) > api.MaxBlob {
		return api.ErrWide
	}
	*s = append(*s, blob)
	return api.OK
}

// take: the top, taken away; false if there is none.
func (s *stack) take() (string, bool) {
	last := len(*s) - 1
	if last < 0 {
		return "", false
	}
	top := (*s)[last]
	*s = (*s)[:last]
	return top, true
}

// drop: the top is taken away; ErrStack.
func (s *stack) drop() api.Errno {
	if _, ok := s.take(); !ok {
		return api.ErrStack
	}
	return api.OK
}

// double: the top is put once more; ErrStack.
func (s *stack) double() api.Errno {
	if len(*s) == 0 {
		return api.ErrStack
	}
	return s.put((*s)[len(*s)-1])
}

// swap: the two at the top change places; ErrStack.
func (s *stack) swap() api.Errno {
	last := len(*s) - 1
	if last < 1 {
		return api.ErrStack
	}
	(*s)[last-1], (*s)[last] = (*s)[last], (*s)[last-1]
	return api.OK
}

// change: the top is what f makes of it; ErrStack, ErrWide.
func (s *stack) change(f func(top string) string) api.Errno {
	top, ok := s.take()
	if !ok {
		return api.ErrStack
	}
	return s.put(f(top))
}

// fold: the two at the top are one, what f makes of them; ErrStack, ErrWide.
func (s *stack) fold(f func(lower, top string) string) api.Errno {
	top, ok := s.take()
	if !ok {
		return api.ErrStack
	}
	return s.change(func(lower string) string { return f(lower, top) })
}
