package route

// heap keeps things such that the first one can be taken again and again.
type heap[T any] struct {
	list   []T // what is at k is not after what is at 2 k + 1 and at 2 k + 2
	before func(a, b T) bool
}

// newHeap is an empty one, whose things are taken in an order.
func newHeap[T any](before func(a, b T) bool) *heap[T] {
	return &heap[T]{before: before}
}

// put adds a thing.
func (h *heap[T]) put(x T) {
	h.list = append(h.list, x)
	for k := len(h.list) - 1; k > 0 && h.rises(k, (k-1)/2); {
		k = (k - 1) / 2
	}
}

// take removes the first thing, if there is any.
func (h *heap[T]) take() (T, bool) {
	var first T
	if len(h.list) == 0 {
		return first, false
	}
	last := len(h.list) - 1
	first, h.list[0] = h.list[0], h.list[last]
	h.list = h.list[:last]
	for k := 0; 2*k+1 < last; {
		child := h.firstChild(k)
		if !h.rises(child, k) {
			break
		}
		k = child
	}
	return first, true
}

// firstChild is the place of the one, of the one or two things below a place, that comes first.
func (h *heap[T]) firstChild(k int) int {
	left, right := 2*k+1, 2*k+2
	if right < len(h.list) && h.before(h.list[right], h.list[left]) {
		return right
	}
	return left
}

// rises changes places with what is above, where that comes later: does it?
func (h *heap[T]) rises(k, above int) bool {
	if !h.before(h.list[k], h.list[above]) {
		return false
	}
	h.list[k], h.list[above] = h.list[above], h.list[k]
	return true
}
