package solve

import (
	"slices"

	"casement/api"
)

// want is how much a part wants, at first.
func want(total int, s api.Size) int {
	switch s.Kind {
	case api.Fixed:
		return s.N
	case api.Percent:
		return max(1, total*s.N/100)
	}
	return 1
}

// wanted is what the parts want, and what they leave of the total; below 0, if they want too much.
func wanted(total int, sizes []api.Size) ([]int, int) {
	var lengths []int
	left := total
	for _, s := range sizes {
		n := want(total, s)
		lengths = append(lengths, n)
		left -= n
	}
	return lengths, left
}

// lessen takes away what is too much, from the last part on. Flex ones lose nothing: they want no more than the 1 that each part keeps.
func lessen(lengths []int, over int) {
	for i, n := range slices.Backward(lengths) {
		less := min(over, n-1)
		lengths[i] -= less
		over -= less
	}
}

// spread shares out what is left over. Where there is no Flex part, the last one stands for it.
func spread(lengths []int, sizes []api.Size, left int) {
	flex := places(sizes, func(s api.Size) bool { return s.Kind == api.Flex })
	if len(flex) == 0 {
		flex = []int{len(sizes) - 1}
	}
	each, more := left/len(flex), left%len(flex)
	for i, place := range flex {
		lengths[place] += each
		if i < more {
			lengths[place]++
		}
	}
}

// places tells where the sizes stand that are so.
func places(sizes []api.Size, are func(s api.Size) bool) []int {
	var list []int
	for i, s := range sizes {
		if are(s) {
			list = append(list, i)
		}
	}
	return list
}
