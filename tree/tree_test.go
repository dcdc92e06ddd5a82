package tree_test

import (
	"math"
	"slices"
	"testing"

	"paceline/api"
	"paceline/tree"
)

// two is two trees: 0 with 1, 2 and 3 (a kind of 1), and 4 with 5.
var two = []int{-1, 0, 0, 1, -1, 4}

// chain is the highest tree that may be: each class is a kind of the one ahead.
func chain(n int) []int {
	parents := make([]int, n)
	for class := range parents {
		parents[class] = class - 1
	}
	return parents
}

// trees are parents that Check takes.
func trees() [][]int {
	all := [][]int{
		{-1},
		{-1, -1},
		{-1, 0},
		{-1, 0, 0, 1},
		two,
		chain(api.MaxClass),
		slices.Repeat([]int{-1}, api.MaxClass),
		append([]int{-1}, make([]int, api.MaxClass-1)...),
	}
	next := numbers(5)
	for range 40 {
		parents := make([]int, 1+next(api.MaxClass))
		for class := range parents {
			parents[class] = next(class+1) - 1
		}
		all = append(all, parents)
	}
	return all
}

// noTrees are parents that Check refuses.
func noTrees() map[string][]int {
	return map[string][]int{
		"nil":                 nil,
		"no classes":          {},
		"one too many":        slices.Repeat([]int{-1}, api.MaxClass+1),
		"many":                slices.Repeat([]int{-1}, 300),
		"a chain too high":    chain(api.MaxClass + 1),
		"its own parent":      {0},
		"its own parent, 1":   {-1, 1},
		"a way round":         {1, 0},
		"a later parent":      {-1, 2, 0},
		"a parent behind all": {-1, 0, 3},
		"-2":                  {-2},
		"-2 behind others":    {-1, 0, -2},
		"least":               {math.MinInt},
		"greatest":            {-1, math.MaxInt},
		"the last one wrong":  append(chain(api.MaxClass-1), api.MaxClass-1),
	}
}

// noClasses are numbers that are no classes of n.
func noClasses(n int) []int {
	return []int{math.MinInt, -2, -1, n, n + 1, api.MaxClass, api.MaxClass + 1, math.MaxInt}
}

// numbers tells numbers below n, the same ones for the same seed.
func numbers(seed uint32) func(n int) int {
	return func(n int) int {
		seed = seed*1664525 + 1013904223
		return int(seed>>8) % n
	}
}

// tells: of a the calls tell just what is above, and below.
func tells(t *testing.T, parents []int, a int, above, below []int) {
	t.Helper()
	if got := tree.Above(parents, a); !slices.Equal(got, above) {
		t.Errorf("Above(%v, %d): %v, not %v", parents, a, got, above)
	}
	if got := tree.Below(parents, a); !slices.Equal(got, below) {
		t.Errorf("Below(%v, %d): %v, not %v", parents, a, got, below)
	}
}

// P5.1
func TestCheckTakesTrees(t *testing.T) {
	for _, parents := range trees() {
		if e := tree.Check(parents); e != api.OK {
			t.Errorf("Check(%v): %d", parents, e)
		}
	}
}

// P5.1
func TestCheckRefusesOthers(t *testing.T) {
	for name, parents := range noTrees() {
		if e := tree.Check(parents); e != api.ErrTree {
			t.Errorf("%s: Check(%v): %d", name, parents, e)
		}
	}
}

// P5.1: every number as the parent of each class of three.
func TestCheckOfEachParent(t *testing.T) {
	for class := range 3 {
		for parent := -3; parent <= 4; parent++ {
			parents := []int{-1, -1, -1}
			parents[class] = parent
			want := api.ErrTree
			if parent >= -1 && parent < class {
				want = api.OK
			}
			if e := tree.Check(parents); e != want {
				t.Errorf("Check(%v): %d, not %d", parents, e, want)
			}
		}
	}
}

// P5.1, P5.2: of what Check refuses all others answer false, none, -1.
func TestNothingOfNoTree(t *testing.T) {
	for name, parents := range noTrees() {
		t.Run(name, func(t *testing.T) {
			for a := -1; a <= api.MaxClass; a++ {
				tells(t, parents, a, nil, nil)
				for b := -1; b <= api.MaxClass; b++ {
					if tree.IsA(parents, a, b) {
						t.Errorf("IsA(%v, %d, %d)", parents, a, b)
					}
					if m := tree.Meet(parents, a, b); m != -1 {
						t.Errorf("Meet(%v, %d, %d): %d", parents, a, b, m)
					}
				}
			}
		})
	}
}

// P5.1, P5.2: of classes that there are not all others answer false, none, -1.
func TestNothingOfNoClass(t *testing.T) {
	for _, parents := range [][]int{{-1}, two, chain(api.MaxClass - 1), chain(api.MaxClass)} {
		for _, no := range noClasses(len(parents)) {
			if no >= 0 && no < len(parents) {
				continue
			}
			tells(t, parents, no, nil, nil)
			for _, other := range append(noClasses(len(parents)), 0, len(parents)-1, no) {
				if tree.IsA(parents, no, other) || tree.IsA(parents, other, no) {
					t.Errorf("IsA(%v) of %d and %d", parents, no, other)
				}
				if m := tree.Meet(parents, no, other); m != -1 {
					t.Errorf("Meet(%v, %d, %d): %d", parents, no, other, m)
				}
				if m := tree.Meet(parents, other, no); m != -1 {
					t.Errorf("Meet(%v, %d, %d): %d", parents, other, no, m)
				}
			}
		}
	}
}

// P5.2
func TestAboveAndBelow(t *testing.T) {
	tells(t, []int{-1, 0, 0, 1}, 3, []int{3, 1, 0}, []int{3})
	tells(t, two, 0, []int{0}, []int{0, 1, 2, 3})
	tells(t, two, 1, []int{1, 0}, []int{1, 3})
	tells(t, two, 2, []int{2, 0}, []int{2})
	tells(t, two, 3, []int{3, 1, 0}, []int{3})
	tells(t, two, 4, []int{4}, []int{4, 5})
	tells(t, two, 5, []int{5, 4}, []int{5})
	tells(t, []int{-1}, 0, []int{0}, []int{0})

	high := chain(api.MaxClass)
	all := make([]int, api.MaxClass)
	for class := range all {
		all[class] = class
	}
	down := slices.Clone(all)
	slices.Reverse(down)
	tells(t, high, api.MaxClass-1, down, []int{api.MaxClass - 1})
	tells(t, high, 0, []int{0}, all)
}

// P5.2
func TestIsA(t *testing.T) {
	kinds := [][]int{{0}, {0, 1}, {0, 2}, {0, 1, 3}, {4}, {4, 5}}
	for a, above := range kinds {
		for b := range two {
			if got, want := tree.IsA(two, a, b), slices.Contains(above, b); got != want {
				t.Errorf("IsA(%v, %d, %d): %v", two, a, b, got)
			}
		}
	}
}

// P5.2
func TestMeet(t *testing.T) {
	for _, x := range []struct{ a, b, meet int }{
		{3, 2, 0}, {2, 3, 0}, {1, 2, 0}, {3, 1, 1}, {1, 3, 1}, {3, 0, 0}, {0, 0, 0}, {3, 3, 3},
		{5, 4, 4}, {4, 5, 4}, {5, 5, 5}, {5, 3, -1}, {3, 5, -1}, {0, 4, -1},
	} {
		if m := tree.Meet(two, x.a, x.b); m != x.meet {
			t.Errorf("Meet(%v, %d, %d): %d, not %d", two, x.a, x.b, m, x.meet)
		}
	}
}

// P5.2: of many trees each call is held against what the parents say.
func TestAllByTheParents(t *testing.T) {
	for _, parents := range trees() {
		above := make([][]int, len(parents))
		below := make([][]int, len(parents))
		for class, parent := range parents {
			above[class] = []int{class}
			if parent >= 0 {
				above[class] = append(above[class], above[parent]...)
			}
			for _, up := range above[class] {
				below[up] = append(below[up], class)
			}
		}
		for a := range parents {
			tells(t, parents, a, above[a], below[a])
			for b := range parents {
				if got, want := tree.IsA(parents, a, b), slices.Contains(above[a], b); got != want {
					t.Errorf("IsA(%v, %d, %d): %v", parents, a, b, got)
				}
				meet := -1
				if at := slices.IndexFunc(above[a], func(c int) bool { return slices.Contains(above[b], c) }); at >= 0 {
					meet = above[a][at]
				}
				if got := tree.Meet(parents, a, b); got != meet {
					t.Errorf("Meet(%v, %d, %d): %d, not %d", parents, a, b, got, meet)
				}
			}
		}
	}
}

// P5.3: each class is its own kind; no two are each other's; kinds of kinds are kinds.
func TestIsAIsAPartialOrder(t *testing.T) {
	for _, parents := range trees() {
		for a := range parents {
			if !tree.IsA(parents, a, a) {
				t.Errorf("not IsA(%v, %d, %d)", parents, a, a)
			}
			for b := range parents {
				if a != b && tree.IsA(parents, a, b) && tree.IsA(parents, b, a) {
					t.Errorf("IsA(%v) of %d and %d, both ways", parents, a, b)
				}
				for c := range parents {
					if tree.IsA(parents, a, b) && tree.IsA(parents, b, c) && !tree.IsA(parents, a, c) {
						t.Errorf("IsA(%v) of %d, %d, not %d", parents, a, b, c)
					}
				}
			}
		}
	}
}

// P5.3: Meet is the same both ways, and below it stands nothing that both are kinds of.
func TestMeetIsTheSameBothWays(t *testing.T) {
	for _, parents := range trees() {
		for a := range parents {
			for b := range parents {
				m := tree.Meet(parents, a, b)
				if back := tree.Meet(parents, b, a); back != m {
					t.Errorf("Meet(%v) of %d and %d: %d, and %d", parents, a, b, m, back)
				}
				for c := range parents {
					if tree.IsA(parents, a, c) && tree.IsA(parents, b, c) && !tree.IsA(parents, m, c) {
						t.Errorf("Meet(%v) of %d and %d: %d, which is no %d", parents, a, b, m, c)
					}
				}
			}
		}
	}
}

// R3: what is handed in is not changed, nor what lies behind its length.
func TestParentsStay(t *testing.T) {
	room := append(slices.Clone(two), 7, 8, 9)
	parents := room[:len(two)]
	tree.Check(parents)
	for a := range parents {
		tree.Above(parents, a)
		tree.Below(parents, a)
		tree.IsA(parents, a, 0)
		tree.Meet(parents, a, 3)
	}
	if want := append(slices.Clone(two), 7, 8, 9); !slices.Equal(room, want) {
		t.Errorf("the parents are %v, not %v", room, want)
	}
}

// R3: an answer is new memory, with its spare room.
func TestAnswersShareNothing(t *testing.T) {
	parents := slices.Clone(two)
	for _, call := range []func([]int, int) []int{tree.Above, tree.Below} {
		for a := range parents {
			want := call(parents, a)
			scratch := call(parents, a)
			scratch = scratch[:cap(scratch)]
			for i := range scratch {
				scratch[i] = -77
			}
			if got := call(parents, a); !slices.Equal(got, want) {
				t.Errorf("after an answer was written over: %v, not %v", got, want)
			}
		}
	}
	if !slices.Equal(parents, two) {
		t.Errorf("the parents are %v, not %v", parents, two)
	}
}
