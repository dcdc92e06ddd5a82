package cut_test

import (
	"math"
	"testing"

	"paceline/api"
	"paceline/cut"
)

// The kinds of calls that may change a cut.
const (
	begins = iota
	sends
	gets
	turns
	reports
	kinds
)

// call is one of a cut: who calls, and a time or a colour, where that kind has one.
type call struct{ kind, who, x int }

// model is a cut by another way than the program's: it keeps the calls that were not refused, and works all out from them anew.
type model struct {
	n     int
	calls []call
}

// last is the place of the last call that began a round; -1, if none did.
func (m *model) last() int {
	at := -1
	for p, d := range m.calls {
		if d.kind == begins {
			at = p
		}
	}
	return at
}

// count tells how many calls behind the place at are of that kind, of that participant (-1: of whomever).
func (m *model) count(at, kind, who int) int {
	n := 0
	for p, d := range m.calls {
		if p > at && d.kind == kind && (who < 0 || d.who == who) {
			n++
		}
	}
	return n
}

func (m *model) under() bool {
	at := m.last()
	return at >= 0 && m.count(at, reports, -1) < m.n
}

// colour hangs on how often one turned: once a round.
func (m *model) colour(i int) int {
	if i < 0 || i >= m.n {
		return -1
	}
	return m.count(-1, turns, i) % 2
}

// onWay tells how many of that colour were sent, and not got.
func (m *model) onWay(colour int) int {
	n, past := 0, &model{n: m.n}
	for _, d := range m.calls {
		if d.kind == sends && past.colour(d.who) == colour {
			n++
		}
		if d.kind == gets && d.x == colour {
			n--
		}
		past.calls = append(past.calls, d)
	}
	return n
}

// valueAndRounds goes through all rounds, one behind the other.
func (m *model) valueAndRounds() (int, int) {
	value, rounds, least, told, hasTurned := 0, 0, api.Inf, 0, map[int]bool{}
	for _, d := range m.calls {
		switch d.kind {
		case begins:
			least, told, hasTurned = api.Inf, 0, map[int]bool{}
		case turns:
			hasTurned[d.who] = true
		case sends:
			if hasTurned[d.who] && d.x < least {
				least = d.x
			}
		case reports:
			if d.x < least {
				least = d.x
			}
			if told++; told == m.n {
				rounds++
				if least > value {
					value = least
				}
			}
		}
	}
	return value, rounds
}

// refused tells the error of a call; OK, if it is none.
func (m *model) refused(d call) api.Errno {
	at, isTime := m.last(), d.x >= 0 && d.x <= api.MaxTime || d.x == api.Inf
	if d.kind != begins && m.colour(d.who) < 0 {
		return api.ErrArg
	}
	switch d.kind {
	case begins:
		if m.under() {
			return api.ErrOrder
		}
	case sends:
		if !isTime {
			return api.ErrArg
		}
	case gets:
		if d.x < 0 || d.x > 1 || m.onWay(d.x) == 0 {
			return api.ErrArg
		}
	case turns:
		if !m.under() || m.count(at, turns, d.who) > 0 {
			return api.ErrOrder
		}
	case reports:
		switch old := (m.count(-1, begins, -1) + 1) % 2; {
		case !isTime:
			return api.ErrArg
		case !m.under() || m.count(at, turns, -1) < m.n || m.count(at, reports, d.who) > 0:
			return api.ErrOrder
		case m.onWay(old) > 0:
			return api.ErrIdle
		}
	}
	return api.OK
}

// do: c answers what the model does.
func (m *model) do(t *testing.T, c *cut.Cut, d call) {
	t.Helper()
	want := m.refused(d)
	switch d.kind {
	case begins:
		begin(t, c, want)
	case sends:
		colour := 0
		if want == api.OK {
			colour = m.colour(d.who)
		}
		sent(t, c, d.who, d.x, colour, want)
	case gets:
		got(t, c, d.who, d.x, want)
	case turns:
		turn(t, c, d.who, want)
	case reports:
		report(t, c, d.who, d.x, want)
	}
	if want == api.OK {
		m.calls = append(m.calls, d)
	}
}

// same: all that c tells without a change is as of the model.
func (m *model) same(t *testing.T, c *cut.Cut) {
	t.Helper()
	value, rounds := m.valueAndRounds()
	is(t, c, value, rounds, m.under())
	for i := -1; i <= api.MaxFeds; i++ {
		if c.Colour(i) != m.colour(i) {
			t.Errorf("Colour(%d): %d, not %d", i, c.Colour(i), m.colour(i))
		}
	}
}

// drawn draws numbers below a bound, from a seed on: the same ones of each seed.
func drawn(seed int) func(below int) int {
	state := uint64(seed)
	return func(below int) int {
		state = state*6364136223846793005 + 1442695040888963407
		return int((state >> 33) % uint64(below))
	}
}

// P16.1 to P16.5: whatever is called, in whatever order, it is as of the model; what is refused changes nothing.
func TestLongRuns(t *testing.T) {
	odd := []int{math.MinInt, -1, 2, api.MaxTime, api.MaxTime + 1, api.Inf, api.Inf + 1, math.MaxInt}
	rounds := 0
	for n := 1; n <= api.MaxFeds; n++ {
		for run := range 12 {
			c, m, draw := made(t, n), &model{n: n}, drawn(100*n+run)
			for step := range 300 {
				d := call{kind: draw(kinds), who: draw(n)}
				if draw(20) == 0 {
					d.who = []int{-1, n, math.MinInt, math.MaxInt}[draw(4)]
				}
				switch {
				case draw(20) == 0:
					d.x = odd[draw(len(odd))]
				case d.kind == gets:
					d.x = draw(2)
				default:
					d.x = step + draw(30)
				}
				// More is got than sent, so that old colours come to an end.
				if d.kind == sends && draw(2) == 0 {
					d = call{gets, draw(n), draw(2)}
				}
				m.do(t, c, d)
				m.same(t, c)
				if t.Failed() {
					t.Fatalf("of %d, run %d, at step %d: %v", n, run, step, d)
				}
			}
			rounds += c.Rounds()
		}
	}
	if rounds < 300 {
		t.Errorf("only %d rounds", rounds)
	}
}

// every lets a cut of n do each row of calls of that length that begins with these, those that are refused among them.
func every(t *testing.T, n, length int, row, all []call) {
	c, m := made(t, n), &model{n: n}
	for _, d := range row {
		m.do(t, c, d)
	}
	m.same(t, c)
	if t.Failed() {
		t.Fatalf("of %d: %v", n, row)
	}
	if len(row) == length {
		return
	}
	for _, d := range all {
		every(t, n, length, append(row[:len(row):len(row)], d), all)
	}
}

// P16.1 to P16.5: of one participant and of two, all rows of calls up to some length.
func TestAllShortRows(t *testing.T) {
	for _, x := range []struct{ n, length int }{{1, 7}, {2, 5}} {
		all := []call{{begins, 0, 0}}
		for i := range x.n {
			all = append(all, call{turns, i, 0}, call{sends, i, 2 + i}, call{reports, i, 3 - i})
		}
		all = append(all, call{gets, 0, 0}, call{gets, x.n - 1, 1})
		every(t, x.n, x.length, nil, all)
	}
}
