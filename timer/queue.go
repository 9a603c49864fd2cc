package timer

import "cmp"

// timer is one that is set: what is told of it, and when it is due again.
type timer struct {
	Due
	every int64 // 0: never
}

// order is below 0 where a is told ahead of b.
func order(a, b Due) int {
	if a.At != b.At {
		return cmp.Compare(a.At, b.At)
	}
	return cmp.Compare(a.Id, b.Id)
}

// queue is a heap of timers: the one that is told next is the first one.
type queue []timer

// Len is how many there are.
func (q queue) Len() int { return len(q) }

// Less tells whether one is told ahead of another one.
func (q queue) Less(i, j int) bool { return order(q[i].Due, q[j].Due) < 0 }

// Swap puts each of two in the other's place.
func (q queue) Swap(i, j int) { q[i], q[j] = q[j], q[i] }

// Push puts a timer at the end.
func (q *queue) Push(x any) { *q = append(*q, x.(timer)) }

// Pop takes the last one.
func (q *queue) Pop() any {
	end := len(*q) - 1
	t := (*q)[end]
	*q = (*q)[:end]
	return t
}
