package trim

// stack is what is left to do: what was put last is taken first.
type stack[T any] struct{ items []T }

func (s *stack[T]) put(item T) { s.items = append(s.items, item) }

// take is false if nothing is left.
func (s *stack[T]) take() (T, bool) {
	last := len(s.items) - 1
	if last < 0 {
		var none T
		return none, false
	}
	item := s.items[last]
	s.items = s.items[:last]
	return item, true
}
