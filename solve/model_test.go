package solve_test

import (
	"slices"
	"testing"

	"casement/api"
	"casement/solve"
)

var flex = api.Size{}

func fixed(n int) api.Size { return api.Size{Kind: 1, N: n} }

func percent(n int) api.Size { return api.Size{Kind: 2, N: n} }

// modelRight is what Check is to answer OK to.
func modelRight(s api.Size) bool {
	most, ok := map[int]int{1: 200, 2: 100}[s.Kind]
	return s.Kind == 0 || ok && s.N >= 1 && s.N <= most
}

func sum(list []int) int {
	total := 0
	for _, n := range list {
		total += n
	}
	return total
}

// modelShare is what Share is to answer: one cell after the other is taken away, or given out.
func modelShare(total int, sizes []api.Size) ([]int, api.Errno) {
	switch {
	case len(sizes) == 0, !modelAll(sizes, modelRight), total > 200:
		return nil, 1
	case len(sizes) > 16:
		return nil, 3
	case total < len(sizes):
		return nil, 90
	}
	list := make([]int, len(sizes))
	var takers []int
	for i, s := range sizes {
		switch s.Kind {
		case 0:
			list[i] = 1
			takers = append(takers, i)
		case 1:
			list[i] = s.N
		case 2:
			for 100*(list[i]+1) <= total*s.N {
				list[i]++
			}
			if list[i] == 0 {
				list[i] = 1
			}
		}
	}
	for sum(list) > total {
		last := 0
		for i, s := range sizes {
			if list[i] > 1 && s.Kind != 0 {
				last = i
			}
		}
		list[last]--
	}
	if takers == nil {
		takers = []int{len(sizes) - 1}
	}
	for turn := 0; sum(list) < total; turn++ {
		list[takers[turn%len(takers)]]++
	}
	return list, 0
}

// modelLeast is what Least is to answer.
func modelLeast(sizes []api.Size) int {
	total := 0
	for i, s := range sizes {
		if i >= 16 {
			break
		}
		total++
		if modelRight(s) && s.Kind == 1 {
			total += s.N - 1
		}
	}
	return total
}

func modelAll(sizes []api.Size, are func(s api.Size) bool) bool {
	for _, s := range sizes {
		if !are(s) {
			return false
		}
	}
	return true
}

// lists goes through all lists of at most so many of the sizes.
func lists(of []api.Size, most int, yield func(sizes []api.Size)) {
	var add func(sizes []api.Size)
	add = func(sizes []api.Size) {
		yield(sizes)
		if len(sizes) < most {
			for _, s := range of {
				add(append(slices.Clip(sizes), s))
			}
		}
	}
	add(nil)
}

// answers holds Share and Least to the model.
func answers(t *testing.T, total int, sizes []api.Size) {
	t.Helper()
	got, code := solve.Share(total, sizes)
	want, wrong := modelShare(total, sizes)
	if !slices.Equal(got, want) || code != wrong {
		t.Fatalf("Share(%d, %v) = %v, %d, not %v, %d", total, sizes, got, code, want, wrong)
	}
	if got, want := solve.Least(sizes), modelLeast(sizes); got != want {
		t.Fatalf("Least(%v) = %d, not %d", sizes, got, want)
	}
}
