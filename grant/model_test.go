package grant_test

import (
	"math"
	"testing"
)

// model answers a as the document's words say, each message looked at on its own.
func model(a ask) answer {
	first, is := math.MaxInt, false
	atMost, ofFirst := 0, 0
	for _, t := range a.queue {
		if !is {
			first, is = t, true
		}
		if t <= a.ask {
			atMost++
		}
		if t == first {
			ofFirst++
		}
	}
	switch {
	case a.kind == 1 && a.bound > a.ask:
		return to(a.ask, atMost)
	case a.kind == 2 && atMost > 0 && a.bound > first:
		return to(max(first, a.time), ofFirst)
	case a.kind == 2 && atMost == 0 && a.bound > a.ask:
		return to(a.ask, 0)
	case a.kind == 3:
		return to(max(a.time, min(a.ask, a.bound, first)), len(a.queue))
	}
	return answer{}
}

// rising hands each rising list of up to n numbers from low to high on.
func rising(n, low, high int, yield func([]int)) {
	var longer func(l []int)
	longer = func(l []int) {
		yield(l)
		if len(l) == n {
			return
		}
		from := low
		if len(l) > 0 {
			from = l[len(l)-1]
		}
		for t := from; t <= high; t++ {
			longer(append(l[:len(l):len(l)], t))
		}
	}
	longer(nil)
}

// all hands each ask of small numbers on.
func all(yield func(ask)) {
	rising(4, 0, 5, func(queue []int) {
		for kind := range 5 {
			for at := range 6 {
				for time := range 6 {
					for bound := range 8 {
						yield(ask{kind, at, time, bound, queue})
					}
				}
			}
		}
	})
}

// P19.1: all small ones are answered as the model answers them.
func TestAllSmallOnes(t *testing.T) {
	all(func(a ask) {
		if told := decide(a); told != model(a) {
			t.Fatalf("Decide(%v): %v, not %v", a, told, model(a))
		}
	})
}

// P19.2: who does not ask for what has passed is never granted what has passed.
func TestNothingPassed(t *testing.T) {
	all(func(a ask) {
		if told := decide(a); told.is && a.ask >= a.time && told.to < a.time {
			t.Fatalf("Decide(%v): %v", a, told)
		}
	})
}

// P19.2: behind a grant of kinds 1 and 2 nothing is left at the time or below it, and bound is above that; where nothing waits that has passed.
func TestNothingLeft(t *testing.T) {
	all(func(a ask) {
		told := decide(a)
		passed := a.ask < a.time || len(a.queue) > 0 && a.queue[0] < a.time
		if !told.is || a.kind == 3 || passed {
			return
		}
		if a.bound <= told.to {
			t.Fatalf("Decide(%v): %v, at bound or above it", a, told)
		}
		if left := a.queue[told.n:]; len(left) > 0 && left[0] <= told.to {
			t.Fatalf("Decide(%v): %v, and these are left: %v", a, told, left)
		}
	})
}

// drawn tells numbers that a rule draws, each below what is asked.
func drawn(seed uint64) func(below int) int {
	return func(below int) int {
		seed = seed*6364136223846793005 + 1442695040888963407
		return int(seed >> 33 % uint64(below))
	}
}

// P19.1: and so are greater ones, with queues of up to a hundred.
func TestGreaterOnes(t *testing.T) {
	draw := drawn(19)
	for range 200000 {
		span := 1 + draw(1<<(1+draw(20)))
		a := ask{1 + draw(3), draw(span), draw(span), draw(span + 2), nil}
		at := draw(span)
		for range draw(100) {
			a.queue = append(a.queue, at)
			at += draw(3) * draw(1+span/50)
		}
		if told := decide(a); told != model(a) {
			t.Fatalf("Decide(%v): %v, not %v", a, told, model(a))
		}
	}
}
