package lbts_test

import (
	"math"
	"slices"
	"testing"

	"paceline/api"
	"paceline/lbts"
)

// counted is what t counts as.
func counted(t int) int {
	switch {
	case t < 0:
		return 0
	case t > api.MaxTime:
		return api.Inf
	}
	return t
}

// leastOf is the least output of the others, by the words of P18.1.
func leastOf(l []member, told []int, i int) int {
	least := api.Inf
	for j, m := range l {
		if j != i && m.Regulating && told[j] < least {
			least = told[j]
		}
	}
	return least
}

// comesTo is what the words of P18.2 make of i, if outputs are these.
func comesTo(l []member, told []int, i int) int {
	m := l[i]
	if !m.Regulating {
		return api.Inf
	}
	base := counted(m.Time)
	waits := m.Kind == 2 || m.Kind == 3
	if m.Kind == 1 || waits {
		base = counted(m.Ask)
	}
	if waits && m.Constrained {
		for _, other := range []int{counted(m.First), leastOf(l, told, i)} {
			if other < base {
				base = other
			}
		}
		if base < counted(m.Time) {
			base = counted(m.Time)
		}
	}
	look := m.Look
	if look < 1 {
		look = 1
	}
	if look > maxLook {
		look = maxLook
	}
	return counted(base + look)
}

// holds tells whether these outputs are what they come to.
func holds(l []member, told []int) bool {
	for i := range l {
		if told[i] != comesTo(l, told, i) {
			return false
		}
	}
	return true
}

// down comes to the outputs by another way than the program's: from the greatest times on, each is lowered to what it comes to, till all are.
func down(l []member) []int {
	told := slices.Repeat([]int{api.Inf}, len(l))
	for !holds(l, told) {
		for i := range l {
			told[i] = comesTo(l, told, i)
		}
	}
	return told
}

// greatest: what l is told is so, and no times that are so, of all those up to a bound and Inf, are greater anywhere.
func greatest(t *testing.T, l []member, upTo int) {
	t.Helper()
	told := lbts.Outputs(l)
	if len(told) != len(l) || !holds(l, told) {
		t.Fatalf("Outputs(%v): %v", l, told)
	}
	try := make([]int, len(l))
	for {
		if holds(l, try) {
			for i := range try {
				if try[i] > told[i] {
					t.Fatalf("Outputs(%v): %v, though %v may be", l, told, try)
				}
			}
		}
		if !stepped(try, upTo) {
			return
		}
	}
}

// stepped makes try the next row of times up to a bound and Inf; false, if it was the last one.
func stepped(try []int, upTo int) bool {
	for i := range try {
		switch {
		case try[i] < upTo:
			try[i]++
			return true
		case try[i] == upTo:
			try[i] = api.Inf
			return true
		}
		try[i] = 0
	}
	return false
}

// small are members of few numbers, of all Kinds.
func small() []member {
	var all []member
	for _, look := range []int{1, 3} {
		for _, time := range []int{0, 3} {
			all = append(all, free(0, time, look, 0, 0))
			for _, ask := range []int{4, api.Inf} {
				all = append(all, free(2, time, look, ask, 2))
				for _, first := range []int{2, 5, api.Inf} {
					all = append(all, bound(1, time, look, ask, first), bound(2, time, look, ask, first), bound(3, time, look, ask, first))
				}
			}
		}
	}
	return append(all, member{Constrained: true, Kind: 2, Ask: 4})
}

// latest is above all times but Inf that n small members may come to: who hangs on nobody to 8 at most, and each that hangs on others to 3 more than one of them.
func latest(n int) int {
	return 8 + 3*(n-1) + 1
}

// P18.2: of all federations of two members of few numbers, the greatest times for which all is so.
func TestGreatestOfTwo(t *testing.T) {
	for _, a := range small() {
		for _, b := range small() {
			greatest(t, []member{a, b}, latest(2))
		}
	}
}

// P18.2: of many federations of three and four members likewise.
func TestGreatestOfMore(t *testing.T) {
	some, draw := small(), drawn(18)
	for n, runs := range map[int]int{3: 1500, 4: 60} {
		for range runs {
			l := make([]member, n)
			for i := range l {
				l[i] = some[draw(len(some))]
			}
			greatest(t, l, latest(n))
		}
	}
}

// drawn draws numbers below a bound, from a seed on: the same ones of each seed.
func drawn(seed int) func(below int) int {
	state := uint64(seed)
	return func(below int) int {
		state = state*6364136223846793005 + 1442695040888963407
		return int((state >> 33) % uint64(below))
	}
}

// any member, of numbers that lie near one another, some of them at an edge.
func anyMember(draw func(int) int) member {
	number := func(below int, odd []int) int {
		if draw(12) == 0 {
			return odd[draw(len(odd))]
		}
		return draw(below)
	}
	m := member{Regulating: draw(5) > 0, Constrained: draw(4) > 0, Kind: number(4, kinds), Look: 1 + number(9, looks[:len(looks)-1])}
	m.Time, m.Ask, m.First = number(60, edges), number(90, edges), number(90, edges)
	return m
}

// federation of n members.
func federation(n int, draw func(int) int) []member {
	l := make([]member, n)
	for i := range l {
		l[i] = anyMember(draw)
	}
	return l
}

// P18.1, P18.2: of whatever members, and however many, it is as of the model; and the same, when it is asked again.
func TestAsTheModel(t *testing.T) {
	for n := range 12 {
		for run := range 600 {
			l := federation(n, drawn(1000*n+run))
			asTheModel(t, l)
			if t.Failed() {
				t.Fatalf("of %d, run %d", n, run)
			}
		}
	}
	for _, n := range []int{100, 400, 900} {
		asTheModel(t, federation(n, drawn(n)))
	}
}

// asTheModel holds all that is told of l against the model.
func asTheModel(t *testing.T, l []member) {
	t.Helper()
	told := down(l)
	for range 2 {
		outputs(t, l, told...)
		for _, i := range []int{math.MinInt, -1, 0, 1, 2, 3, 4, 5, 6, 7, 8, 9, 10, 11, 12, 99, 899, 900, math.MaxInt} {
			lbtsIs(t, l, i, leastOf(l, told, i))
		}
	}
}

// P18.2: of a row of members each of which comes behind the one ahead of it.
func TestLongRow(t *testing.T) {
	var l []member
	var want []int
	for i := range 500 {
		l = append(l, bound(2+i%2, 10*i, 1+i%3, 10_000, 10*i+4))
		// The least of all is 5, of the first one: so none of the others is ahead of its time.
		want = append(want, 10*i+1+i%3)
	}
	want[0] = 5
	outputs(t, l, want...)
	slices.Reverse(l)
	slices.Reverse(want)
	outputs(t, l, want...)
}

// later are the ways in which a federation may change by which nobody's Lbts is earlier: each is of the member k, by so much.
func later() []func(m *member, more int) {
	return []func(m *member, more int){
		func(m *member, more int) { m.Time += more },
		func(m *member, more int) { m.Ask += more },
		func(m *member, more int) { m.First += more },
		func(m *member, more int) { m.Look += more },
		func(m *member, more int) { m.Regulating = false },
	}
}

// notEarlier: nobody's Lbts is earlier in m than in l; place tells where each stands in m. It answers how many are later.
func notEarlier(t *testing.T, l, m []member, place func(i int) int) int {
	t.Helper()
	rose := 0
	for i := -1; i <= len(l); i++ {
		a, b := lbts.Lbts(l, i), lbts.Lbts(m, place(i))
		if b < a {
			t.Fatalf("Lbts(%v, %d): %d, but Lbts(%v, %d): %d", l, i, a, m, place(i), b)
		}
		if b > a {
			rose++
		}
	}
	return rose
}

// P18.3: with a later Time, Ask or First, a longer Look, one that is regulating no more, nobody's Lbts is earlier.
func TestNobodyIsEarlier(t *testing.T) {
	for way, change := range later() {
		rose := 0
		for run := range 3000 {
			draw := drawn(run)
			l := federation(2+draw(5), draw)
			// At the greatest number there is nothing that is later.
			for i := range l {
				l[i].Time, l[i].Ask, l[i].First = min(l[i].Time, api.Inf), min(l[i].Ask, api.Inf), min(l[i].First, api.Inf)
			}
			m := slices.Clone(l)
			change(&m[draw(len(m))], []int{1, 2, 5, 40, api.MaxTime}[draw(5)])
			rose += notEarlier(t, l, m, func(i int) int { return i })
		}
		if rose < 200 {
			t.Errorf("way %d: only %d are later", way, rose)
		}
	}
}

// P18.3: without one of the members nobody's Lbts is earlier, its own one, as of nobody, neither.
func TestOneLess(t *testing.T) {
	rose := 0
	for run := range 3000 {
		draw := drawn(run)
		l := federation(2+draw(5), draw)
		k := draw(len(l))
		m := slices.Delete(slices.Clone(l), k, k+1)
		rose += notEarlier(t, l, m, func(i int) int {
			switch {
			case i == k:
				return -1
			case i > k:
				return i - 1
			}
			return i
		})
	}
	if rose < 200 {
		t.Errorf("only %d are later", rose)
	}
}
