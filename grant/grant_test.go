package grant_test

import (
	"math"
	"slices"
	"testing"

	"paceline/api"
	"paceline/grant"
)

// An ask is what Decide is given.
type ask struct {
	kind, ask, time, bound int
	queue                  []int
}

// An answer is what Decide tells.
type answer struct {
	is    bool
	to, n int
}

// The answer to who must wait.
var waits = answer{}

// to is the answer to who is granted that time, with n messages.
func to(time, n int) answer { return answer{true, time, n} }

func decide(a ask) answer {
	is, to, n := grant.Decide(a.kind, a.ask, a.time, a.bound, a.queue)
	return answer{is, to, n}
}

// answers: a is answered so.
func answers(t *testing.T, a ask, want answer) {
	t.Helper()
	if told := decide(a); told != want {
		t.Errorf("Decide(%v): %v, not %v", a, told, want)
	}
}

// The chapter's examples.
func TestExamples(t *testing.T) {
	answers(t, ask{1, 10, 0, 11, []int{3, 10, 12}}, to(10, 2))
	answers(t, ask{2, 10, 0, 4, []int{4}}, waits)
}

// P19.1: kind 1 is granted what it asks for, if bound is above that; whatever waits.
func TestToTimeByBound(t *testing.T) {
	for _, queue := range [][]int{nil, {}, {3}, {10}, {11}, {3, 10, 12}} {
		for _, bound := range []int{math.MinInt, -1, 0, 3, 9, 10} {
			answers(t, ask{1, 10, 0, bound, queue}, waits)
		}
		for _, bound := range []int{11, 12, api.MaxTime, api.Inf, math.MaxInt} {
			if told := decide(ask{1, 10, 0, bound, queue}); !told.is || told.to != 10 {
				t.Error(queue, bound, told)
			}
		}
	}
}

// P19.1: those of kind 1 come whose times are at most ask.
func TestToTimeCounts(t *testing.T) {
	queue := []int{3, 3, 5, 10, 10, 10, 11, 12}
	for at, n := range map[int]int{0: 0, 2: 0, 3: 2, 4: 2, 5: 3, 9: 3, 10: 6, 11: 7, 12: 8, 13: 8, api.MaxTime: 8} {
		answers(t, ask{1, at, 0, api.Inf, queue}, to(at, n))
	}
	answers(t, ask{1, 10, 0, 11, nil}, to(10, 0))
}

// P19.1: where it stands says nothing to kind 1.
func TestToTimeFromAnywhere(t *testing.T) {
	for _, time := range []int{math.MinInt, -1, 0, 9, 10, 11, api.Inf, math.MaxInt} {
		answers(t, ask{1, 10, time, 11, []int{3, 10, 12}}, to(10, 2))
		answers(t, ask{1, 10, time, 10, []int{3, 10, 12}}, waits)
	}
}

// P19.1: kind 2 is granted the first one's time, if bound is above that; ask's own is of no account then.
func TestToNextByBound(t *testing.T) {
	queue := []int{4, 4, 6}
	for _, at := range []int{4, 5, 6, 10, api.MaxTime, api.Inf} {
		for _, bound := range []int{math.MinInt, 0, 3, 4} {
			answers(t, ask{2, at, 0, bound, queue}, waits)
		}
		for _, bound := range []int{5, 6, 7, 10, 11, api.Inf} {
			answers(t, ask{2, at, 0, bound, queue}, to(4, 2))
		}
	}
}

// P19.1: those of kind 2 come that are of the first one's time.
func TestToNextCounts(t *testing.T) {
	for _, x := range []struct {
		queue []int
		n     int
	}{{[]int{4}, 1}, {[]int{4, 5}, 1}, {[]int{4, 4}, 2}, {[]int{4, 4, 5, 6}, 2}, {[]int{4, 4, 4, 10, 11}, 3}} {
		answers(t, ask{2, 10, 0, api.Inf, x.queue}, to(4, x.n))
	}
}

// P19.1: kind 2 is granted where it stands, if the first one's time is behind that; bound is held against the first one's time all the same, and no more come.
func TestToNextFromBehind(t *testing.T) {
	queue := []int{4, 5, 7, 8}
	for time, at := range map[int]int{math.MinInt: 4, -1: 4, 3: 4, 4: 4, 5: 5, 7: 7, 11: 11, api.Inf: api.Inf} {
		answers(t, ask{2, 10, time, 5, queue}, to(at, 1))
		answers(t, ask{2, 10, time, 4, queue}, waits)
	}
}

// P19.1: kind 2 goes to ask with none, if none waits up to there and bound is above it.
func TestToNextOfNone(t *testing.T) {
	for _, queue := range [][]int{nil, {}, {11}, {11, 12}, {api.Inf}} {
		for _, time := range []int{0, 7, 10, 12} {
			for _, bound := range []int{math.MinInt, 0, 9, 10} {
				answers(t, ask{2, 10, time, bound, queue}, waits)
			}
			for _, bound := range []int{11, 12, api.Inf} {
				answers(t, ask{2, 10, time, bound, queue}, to(10, 0))
			}
		}
	}
	// One at ask itself is there.
	answers(t, ask{2, 10, 0, 11, []int{10, 10}}, to(10, 2))
}

// P19.1: kind 3 is always granted, to the least of the three, but not below where it stands; all come.
func TestToAll(t *testing.T) {
	for _, x := range []struct {
		ask  ask
		want answer
	}{
		{ask{3, 10, 2, 6, []int{4, 20}}, to(4, 2)},
		{ask{3, 10, 2, 3, []int{4, 20}}, to(3, 2)},
		{ask{3, 3, 2, 6, []int{4, 20}}, to(3, 2)},
		{ask{3, 10, 5, 6, []int{4, 20}}, to(5, 2)},
		{ask{3, 10, 5, 6, []int{9, 9, 20}}, to(6, 3)},
		{ask{3, 10, 20, 30, []int{40}}, to(20, 1)},
		{ask{3, 10, 2, 1, nil}, to(2, 0)},
		{ask{3, 10, 2, 99, nil}, to(10, 0)},
		{ask{3, 10, 2, 7, []int{}}, to(7, 0)},
		{ask{3, api.Inf, 2, api.Inf, nil}, to(api.Inf, 0)},
		{ask{3, api.Inf, 2, api.Inf, []int{api.MaxTime}}, to(api.MaxTime, 1)},
		{ask{3, -4, -9, -5, []int{-6}}, to(-6, 1)},
		{ask{3, math.MinInt, math.MinInt, math.MinInt, nil}, to(math.MinInt, 0)},
		{ask{3, math.MaxInt, 0, math.MaxInt, nil}, to(math.MaxInt, 0)},
	} {
		answers(t, x.ask, x.want)
	}
}

// P19.1: other kinds are not granted anything.
func TestOthers(t *testing.T) {
	for _, kind := range []int{math.MinInt, -3, -2, -1, 0, 4, 5, 1<<32 + 1, 1<<32 + 3, math.MaxInt} {
		answers(t, ask{kind, 1, 0, 99, []int{0}}, waits)
		answers(t, ask{kind, 1, 5, api.Inf, nil}, waits)
	}
}

// P19.1: at the ends of the times bound may lie beside ask.
func TestEdges(t *testing.T) {
	for _, at := range []int{math.MinInt, -1, 0, 1, api.MaxTime, api.Inf - 1, api.Inf, math.MaxInt - 1} {
		for _, kind := range []int{1, 2} {
			answers(t, ask{kind, at, at, at, nil}, waits)
			answers(t, ask{kind, at, at, at + 1, nil}, to(at, 0))
			answers(t, ask{kind, at, at, at, []int{at, at + 1}}, waits)
			answers(t, ask{kind, at, at, at + 1, []int{at, at + 1}}, to(at, 1))
		}
		answers(t, ask{3, at, at, at, []int{at, at + 1}}, to(at, 2))
	}
}

// P19.1: queues of any length, whichever of them come.
func TestLongQueues(t *testing.T) {
	for n := range 300 {
		queue := make([]int, n)
		for i := range queue {
			queue[i] = i / 3
		}
		for at := range n/3 + 2 {
			answers(t, ask{1, at, 0, api.Inf, queue}, to(at, min(n, 3*at+3)))
		}
		if n > 0 {
			answers(t, ask{2, n, 0, api.Inf, queue}, to(0, min(n, 3)))
			answers(t, ask{3, n, 0, api.Inf, queue}, to(0, n))
		}
	}
}

// R1: of a list that does not rise a call ends.
func TestQueuesThatDoNotRise(t *testing.T) {
	queues := [][]int{{9, 3}, {3, 9, 3}, {12, 11, 10, 9}, {math.MaxInt, math.MinInt}, {5, 5, 4, 5, 6, 0}}
	for _, queue := range queues {
		for kind := range 5 {
			for _, at := range []int{math.MinInt, 0, 5, 10, math.MaxInt} {
				if told := decide(ask{kind, at, 4, 8, queue}); told.n < 0 || told.n > len(queue) {
					t.Error(kind, at, queue, told)
				}
			}
		}
	}
}

// R3: what is handed in is not changed, what lies behind its length neither.
func TestQueueStays(t *testing.T) {
	whole := []int{3, 4, 10, 12, 5, 1}
	kept := slices.Clone(whole)
	for kind := range 5 {
		for n := range whole[:4] {
			decide(ask{kind, 10, 0, 11, whole[:n]})
		}
	}
	if !slices.Equal(whole, kept) {
		t.Error(whole)
	}
}

// R5: what was asked ahead of it changes no answer.
func TestOneAnswer(t *testing.T) {
	a := ask{2, 10, 0, 5, []int{4, 4, 6}}
	first := decide(a)
	decide(ask{1, 3, 2, api.Inf, []int{0}})
	decide(ask{3, 3, 2, 1, nil})
	if again := decide(a); again != first {
		t.Error(again, first)
	}
}
