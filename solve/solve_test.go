package solve_test

import (
	"math"
	"math/rand"
	"slices"
	"testing"

	"casement/api"
	"casement/solve"
)

func TestP9_1_CheckTable(t *testing.T) {
	numbers := []int{math.MinInt, -200, -1, 0, 1, 2, 99, 100, 101, 199, 200, 201, 256, 1 << 32, 1<<32 + 1, math.MaxInt}
	for _, x := range []struct {
		kind  int
		right []int
	}{
		{0, numbers},
		{1, []int{1, 2, 99, 100, 101, 199, 200}},
		{2, []int{1, 2, 99, 100}},
		{3, nil}, {4, nil}, {-1, nil}, {256, nil}, {math.MinInt, nil}, {math.MaxInt, nil}, {1 << 32, nil},
	} {
		for _, n := range numbers {
			want := api.ErrArg
			if slices.Contains(x.right, n) {
				want = api.OK
			}
			if got := solve.Check(api.Size{Kind: x.kind, N: n}); got != want {
				t.Errorf("Check of kind %d, N %d = %d, not %d", x.kind, n, got, want)
			}
		}
	}
}

func TestP9_1_CheckOfEachNumber(t *testing.T) {
	for kind := -2; kind < 6; kind++ {
		for n := -300; n < 500; n++ {
			s := api.Size{Kind: kind, N: n}
			if got := solve.Check(s); got != 0 && got != 1 || (got == 0) != modelRight(s) {
				t.Fatalf("Check(%v) = %d", s, got)
			}
		}
	}
}

func TestP9_1_ShareTable(t *testing.T) {
	for _, x := range []struct {
		total int
		sizes []api.Size
		out   []int
	}{
		// as it is said
		{10, []api.Size{fixed(3), flex, flex}, []int{3, 4, 3}},
		{10, []api.Size{percent(50), percent(30)}, []int{5, 5}},
		{4, []api.Size{fixed(3), fixed(3)}, []int{3, 1}},
		// one part
		{1, []api.Size{flex}, []int{1}},
		{200, []api.Size{flex}, []int{200}},
		{200, []api.Size{fixed(1)}, []int{200}},
		{1, []api.Size{fixed(200)}, []int{1}},
		{7, []api.Size{percent(1)}, []int{7}},
		// Flex ones, all alike, and one more each for the first ones
		{6, []api.Size{flex, flex, flex}, []int{2, 2, 2}},
		{7, []api.Size{flex, flex, flex}, []int{3, 2, 2}},
		{8, []api.Size{flex, flex, flex}, []int{3, 3, 2}},
		{3, []api.Size{flex, flex, flex}, []int{1, 1, 1}},
		{12, []api.Size{flex, fixed(2), flex, fixed(3), flex}, []int{3, 2, 2, 3, 2}},
		{200, slices.Repeat([]api.Size{flex}, 16), []int{13, 13, 13, 13, 13, 13, 13, 13, 12, 12, 12, 12, 12, 12, 12, 12}},
		{10, []api.Size{{Kind: 0, N: -5}, {Kind: 0, N: 500}}, []int{5, 5}}, // a Flex one's N is let be
		// without a Flex one the last part has all that is left
		{20, []api.Size{fixed(2), fixed(3)}, []int{2, 18}},
		{20, []api.Size{fixed(2), percent(10)}, []int{2, 18}},
		{20, []api.Size{percent(10), fixed(2)}, []int{2, 18}},
		// Percent: of the total, rounded down, at least 1
		{199, []api.Size{percent(50), flex}, []int{99, 100}},
		{10, []api.Size{percent(9), flex}, []int{1, 9}},
		{10, []api.Size{percent(19), flex}, []int{1, 9}},
		{10, []api.Size{percent(20), flex}, []int{2, 8}},
		{200, []api.Size{percent(1), percent(99), flex}, []int{2, 197, 1}},
		{10, []api.Size{fixed(4), percent(50), flex}, []int{4, 5, 1}},
		{10, []api.Size{flex, percent(100)}, []int{1, 9}},
		// too much: the last ones want less
		{9, []api.Size{fixed(9), flex, percent(1)}, []int{7, 1, 1}},
		{9, []api.Size{fixed(5), fixed(5), fixed(5)}, []int{5, 3, 1}},
		{9, []api.Size{fixed(5), fixed(5), flex}, []int{5, 3, 1}},
		{9, []api.Size{flex, fixed(5), fixed(5)}, []int{1, 5, 3}},
		{3, []api.Size{percent(100), percent(100), flex}, []int{1, 1, 1}},
		{5, []api.Size{percent(100), fixed(200), percent(100)}, []int{3, 1, 1}},
		{16, slices.Repeat([]api.Size{fixed(200)}, 16), slices.Repeat([]int{1}, 16)},
		{17, slices.Repeat([]api.Size{fixed(200)}, 16), append([]int{2}, slices.Repeat([]int{1}, 15)...)},
	} {
		if got, code := solve.Share(x.total, x.sizes); !slices.Equal(got, x.out) || code != api.OK {
			t.Errorf("Share(%d, %v) = %v, %d, not %v", x.total, x.sizes, got, code, x.out)
		}
		answers(t, x.total, x.sizes)
	}
}

func TestP9_1_ShareErrorsTable(t *testing.T) {
	flexes := slices.Repeat([]api.Size{flex}, 100)
	bad := append(slices.Repeat([]api.Size{flex}, 1<<20), fixed(0))
	for _, x := range []struct {
		total int
		sizes []api.Size
		code  api.Errno
	}{
		{10, nil, 1}, {10, []api.Size{}, 1}, {0, nil, 1}, {-1, nil, 1}, {math.MinInt, nil, 1},
		{201, flexes[:1], 1}, {math.MaxInt, flexes[:1], 1}, {1 << 32, flexes[:1], 1},
		{9, []api.Size{{Kind: 3}}, 1}, {9, []api.Size{{Kind: -1, N: 1}}, 1}, {9, []api.Size{{Kind: math.MinInt, N: 1}}, 1},
		{9, []api.Size{fixed(0)}, 1}, {9, []api.Size{fixed(201)}, 1}, {9, []api.Size{percent(0)}, 1}, {9, []api.Size{percent(101)}, 1},
		{9, []api.Size{flex, fixed(-1)}, 1}, {9, []api.Size{percent(-1), flex}, 1}, {9, []api.Size{flex, flex, fixed(math.MaxInt), flex}, 1},
		{200, flexes[:16], 0}, {16, flexes[:16], 0},
		{200, flexes[:17], 3}, {17, flexes[:17], 3}, {20, flexes, 3}, {20, bad[:1<<20], 3},
		{2, flexes[:3], 90}, {15, flexes[:16], 90}, {0, flexes[:1], 90}, {-5, flexes[:1], 90}, {math.MinInt, flexes[:1], 90},
		// of several the one that is named first
		{201, flexes[:17], 1}, {201, flexes, 1}, {20, bad, 1}, {20, bad[len(bad)-17:], 1}, {-1, bad[len(bad)-1:], 1},
		{2, flexes[:17], 3}, {math.MinInt, flexes[:17], 3},
		{0, []api.Size{fixed(201)}, 1}, {201, []api.Size{fixed(201)}, 1},
	} {
		if got, code := solve.Share(x.total, x.sizes); code != x.code || code != 0 && len(got) != 0 {
			t.Errorf("Share(%d, %.60v of %d) = %v, %d, not %d", x.total, x.sizes, len(x.sizes), got, code, x.code)
		}
	}
}

func TestP9_1_ShareOfAllSmallLists(t *testing.T) {
	of := []api.Size{flex, fixed(1), fixed(2), fixed(5), percent(1), percent(34), percent(100), {Kind: 3, N: 1}}
	lists(of, 4, func(sizes []api.Size) {
		for total := -1; total < 16; total++ {
			answers(t, total, sizes)
		}
	})
}

// someSizes are n right ones.
func someSizes(rnd *rand.Rand, n int) []api.Size {
	var list []api.Size
	for range n {
		list = append(list, []api.Size{flex, flex, fixed(1 + rnd.Intn(5)), fixed(1 + rnd.Intn(200)), percent(1 + rnd.Intn(20)), percent(1 + rnd.Intn(100))}[rnd.Intn(6)])
	}
	return list
}

func TestP9_1_RandomShares(t *testing.T) {
	rnd := rand.New(rand.NewSource(1))
	for range 30000 {
		sizes := someSizes(rnd, rnd.Intn(19))
		if len(sizes) > 0 && rnd.Intn(10) == 0 {
			sizes[rnd.Intn(len(sizes))] = api.Size{Kind: rnd.Intn(6) - 1, N: rnd.Intn(300) - 50}
		}
		answers(t, rnd.Intn(205)-2, sizes)
	}
}

func TestP9_1_LeastTable(t *testing.T) {
	twos := slices.Repeat([]api.Size{fixed(2)}, 1<<20)
	for _, x := range []struct {
		sizes []api.Size
		out   int
	}{
		{nil, 0},
		{[]api.Size{}, 0},
		{[]api.Size{flex}, 1},
		{[]api.Size{fixed(7)}, 7},
		{[]api.Size{percent(50)}, 1},
		{[]api.Size{fixed(7), flex, percent(50), fixed(0)}, 10},
		{[]api.Size{fixed(200), fixed(200), fixed(1)}, 401},
		// those that Check refuses count as Flex
		{[]api.Size{fixed(0), fixed(-9), fixed(201), fixed(math.MaxInt), fixed(math.MinInt)}, 5},
		{[]api.Size{percent(0), percent(101), percent(-5)}, 3},
		{[]api.Size{{Kind: 3, N: 9}, {Kind: -1, N: 9}, {Kind: 0, N: 9}, {Kind: 0, N: -9}}, 4},
		// at most MaxParts count
		{twos[:15], 30}, {twos[:16], 32}, {twos[:17], 32}, {twos, 32},
		{append(slices.Clone(twos[:15]), fixed(0), fixed(9)), 31},
	} {
		if got := solve.Least(x.sizes); got != x.out {
			t.Errorf("Least(%.60v) = %d, not %d", x.sizes, got, x.out)
		}
	}
}

func TestP9_2_LengthsAreAtLeastOneAndTotalTogether(t *testing.T) {
	rnd := rand.New(rand.NewSource(2))
	for range 30000 {
		sizes := someSizes(rnd, 1+rnd.Intn(16))
		total := len(sizes) + rnd.Intn(201-len(sizes))
		got, code := solve.Share(total, sizes)
		if code != 0 || len(got) != len(sizes) || sum(got) != total || slices.Min(got) < 1 {
			t.Fatalf("Share(%d, %v) = %v, %d", total, sizes, got, code)
		}
	}
}

// withoutPercent goes through lists of sizes among which no Percent stands.
func withoutPercent(yield func(sizes []api.Size)) {
	lists([]api.Size{flex, fixed(1), fixed(3), fixed(8)}, 5, func(sizes []api.Size) {
		if len(sizes) > 0 {
			yield(sizes)
		}
	})
	rnd := rand.New(rand.NewSource(3))
	for range 300 {
		var sizes []api.Size
		for range 1 + rnd.Intn(16) {
			sizes = append(sizes, []api.Size{flex, fixed(1 + rnd.Intn(9)), fixed(1 + rnd.Intn(60))}[rnd.Intn(3)])
		}
		yield(sizes)
	}
}

// keepsWord tells whether lengths are as P9.3 says.
func keepsWord(sizes []api.Size, lengths []int) bool {
	var flexes []int
	isFlex := func(s api.Size) bool { return s.Kind == 0 }
	for i, s := range sizes {
		switch {
		case isFlex(s):
			flexes = append(flexes, lengths[i])
		case lengths[i] != s.N && (i < len(sizes)-1 || slices.ContainsFunc(sizes, isFlex)):
			return false
		}
	}
	if flexes == nil {
		return true
	}
	return flexes[0]-flexes[len(flexes)-1] <= 1 && slices.IsSortedFunc(flexes, func(a, b int) int { return b - a })
}

func TestP9_3_FixedOnesHaveTheirs(t *testing.T) {
	withoutPercent(func(sizes []api.Size) {
		for total := solve.Least(sizes); total <= 200; total++ {
			if got, code := solve.Share(total, sizes); code != 0 || !keepsWord(sizes, got) {
				t.Fatalf("Share(%d, %v) = %v, %d", total, sizes, got, code)
			}
		}
		if least := solve.Least(sizes); least > 0 && least <= 200 && least > len(sizes) {
			if got, code := solve.Share(least-1, sizes); code != 0 || keepsWord(sizes, got) && slices.Contains(sizes, flex) {
				t.Fatalf("Share(%d, %v) = %v, %d: less than Least is enough", least-1, sizes, got, code)
			}
		}
	})
}

func TestP9_4_MoreTotalMakesNoPartShorter(t *testing.T) {
	withoutPercent(func(sizes []api.Size) {
		before := make([]int, len(sizes))
		for total := len(sizes); total <= 200; total++ {
			got, code := solve.Share(total, sizes)
			if code != 0 || len(got) != len(sizes) {
				t.Fatalf("Share(%d, %v) = %v, %d", total, sizes, got, code)
			}
			for i, n := range got {
				if n < before[i] {
					t.Fatalf("Share(%d, %v) = %v, but of a total of 1 less %v", total, sizes, got, before)
				}
			}
			before = got
		}
	})
}

func TestP9_5_AnswersAreNewMemory(t *testing.T) {
	for _, x := range []struct {
		total int
		sizes []api.Size
		want  []int
	}{
		{10, []api.Size{fixed(3), flex, flex}, []int{3, 4, 3}},
		{4, []api.Size{fixed(3), fixed(3)}, []int{3, 1}},
		{3, []api.Size{flex}, []int{3}},
		{20, []api.Size{percent(10), fixed(2)}, []int{2, 18}},
	} {
		first, _ := solve.Share(x.total, x.sizes)
		second, _ := solve.Share(x.total, x.sizes)
		first = first[:cap(first)]
		for i := range first {
			first[i] = -7
		}
		third, _ := solve.Share(x.total, x.sizes)
		if !slices.Equal(second, x.want) || !slices.Equal(third, x.want) {
			t.Errorf("behind a Share whose answer was written over: %v, %v", second, third)
		}
	}
}

func TestP9_5_ArgumentsStay(t *testing.T) {
	backing := []api.Size{fixed(3), flex, percent(50), fixed(0), percent(999), fixed(9), {Kind: 7, N: 7}}
	before := slices.Clone(backing)
	for _, total := range []int{1, 3, 4, 10, 200, 201} {
		for n := range backing {
			solve.Share(total, backing[:n])
			solve.Least(backing[:n])
			if !slices.Equal(backing, before) {
				t.Fatalf("Share(%d) and Least of %d sizes leave %v", total, n, backing)
			}
		}
	}
	got, code := solve.Share(10, backing[:2])
	clear(backing)
	if !slices.Equal(got, []int{3, 7}) || code != 0 {
		t.Errorf("behind sizes that were written over: %v, %d", got, code)
	}
}
