package cut_test

import (
	"math"
	"testing"

	"paceline/api"
	"paceline/cut"
)

var (
	noTimes = []int{math.MinInt, -api.Inf, -1, api.MaxTime + 1, api.Inf - 1, api.Inf + 1, math.MaxInt}
	times   = []int{0, 1, 7, api.MaxTime - 1, api.MaxTime, api.Inf}
	// The numbers around all participants, those of none among them.
	numbers = []int{math.MinInt, -api.MaxFeds, -1, 0, 1, 2, 3, 4, 5, 6, 7, 8, 9, 1 << 32, math.MaxInt}
)

// made is a cut of n participants.
func made(t *testing.T, n int) *cut.Cut {
	t.Helper()
	c, e := cut.New(n)
	if c == nil || e != api.OK {
		t.Fatalf("New(%d): %v, %d", n, c, e)
	}
	return c
}

func begin(t *testing.T, c *cut.Cut, want api.Errno) {
	t.Helper()
	if e := c.Begin(); e != want {
		t.Errorf("Begin: %d, not %d", e, want)
	}
}

// sent: c answers that colour and that error.
func sent(t *testing.T, c *cut.Cut, i, at, colour int, want api.Errno) {
	t.Helper()
	if told, e := c.Sent(i, at); told != colour || e != want {
		t.Errorf("Sent(%d, %d): %d, %d, not %d, %d", i, at, told, e, colour, want)
	}
}

func got(t *testing.T, c *cut.Cut, i, colour int, want api.Errno) {
	t.Helper()
	if e := c.Got(i, colour); e != want {
		t.Errorf("Got(%d, %d): %d, not %d", i, colour, e, want)
	}
}

func turn(t *testing.T, c *cut.Cut, i int, want api.Errno) {
	t.Helper()
	if e := c.Turn(i); e != want {
		t.Errorf("Turn(%d): %d, not %d", i, e, want)
	}
}

func report(t *testing.T, c *cut.Cut, i, local int, want api.Errno) {
	t.Helper()
	if e := c.Report(i, local); e != want {
		t.Errorf("Report(%d, %d): %d, not %d", i, local, e, want)
	}
}

// is: c tells that value, that many rounds, and whether one is under way.
func is(t *testing.T, c *cut.Cut, value, rounds int, under bool) {
	t.Helper()
	if c.Value() != value || c.Rounds() != rounds || c.Under() != under {
		t.Errorf("Value, Rounds, Under: %d, %d, %v, not %d, %d, %v", c.Value(), c.Rounds(), c.Under(), value, rounds, under)
	}
}

// colours: c has just these participants, of these colours.
func colours(t *testing.T, c *cut.Cut, want ...int) {
	t.Helper()
	for _, i := range numbers {
		colour := -1
		if i >= 0 && i < len(want) {
			colour = want[i]
		}
		if told := c.Colour(i); told != colour {
			t.Errorf("Colour(%d): %d, not %d", i, told, colour)
		}
	}
}

// turned is c with a round under way in which all of n have turned.
func turned(t *testing.T, c *cut.Cut, n int) *cut.Cut {
	t.Helper()
	begin(t, c, api.OK)
	for i := range n {
		turn(t, c, i, api.OK)
	}
	return c
}

// round goes through one, in which all turn, and report these.
func round(t *testing.T, c *cut.Cut, locals ...int) {
	t.Helper()
	turned(t, c, len(locals))
	for i, local := range locals {
		report(t, c, i, local, api.OK)
	}
}

// The chapter's example.
func TestExample(t *testing.T) {
	c := made(t, 1)
	begin(t, c, api.OK)
	report(t, c, 0, 5, api.ErrOrder)
	turn(t, c, 0, api.OK)
	report(t, c, 0, 5, api.OK)
	is(t, c, 5, 1, false)
}

// P16.1: which numbers may be.
func TestNewNone(t *testing.T) {
	for _, n := range numbers {
		if n >= 1 && n <= api.MaxFeds {
			continue
		}
		if c, e := cut.New(n); c != nil || e != api.ErrArg {
			t.Errorf("New(%d): %v, %d", n, c, e)
		}
	}
}

// P16.1: what is there at first.
func TestNew(t *testing.T) {
	for n := 1; n <= api.MaxFeds; n++ {
		c := made(t, n)
		is(t, c, 0, 0, false)
		colours(t, c, make([]int, n)...)
		for colour := range 2 {
			got(t, c, 0, colour, api.ErrArg)
		}
		for i := range n {
			turn(t, c, i, api.ErrOrder)
			report(t, c, i, 5, api.ErrOrder)
		}
		begin(t, c, api.OK)
	}
}

// P16.1, with R3: two cuts have nothing in common.
func TestCutsAreTheirOwn(t *testing.T) {
	a, b := made(t, 2), made(t, 2)
	round(t, a, 5, 6)
	sent(t, a, 0, 9, 1, api.OK)
	begin(t, a, api.OK)
	turn(t, a, 1, api.OK)
	is(t, b, 0, 0, false)
	colours(t, b, 0, 0)
	got(t, b, 0, 1, api.ErrArg)
	round(t, b, 3, 4)
	is(t, b, 3, 1, false)
	is(t, a, 5, 1, true)
	colours(t, a, 1, 0)
}

// P16.2: one round at a time; who begins again begins nothing anew.
func TestBegin(t *testing.T) {
	c := made(t, 2)
	begin(t, c, api.OK)
	is(t, c, 0, 0, true)
	colours(t, c, 0, 0)
	begin(t, c, api.ErrOrder)
	turn(t, c, 0, api.OK)
	sent(t, c, 0, 4, 1, api.OK)
	begin(t, c, api.ErrOrder)
	turn(t, c, 0, api.ErrOrder)
	turn(t, c, 1, api.OK)
	begin(t, c, api.ErrOrder)
	report(t, c, 1, 9, api.OK)
	begin(t, c, api.ErrOrder)
	is(t, c, 0, 0, true)
	colours(t, c, 1, 1)
	report(t, c, 1, 9, api.ErrOrder)
	report(t, c, 0, 9, api.OK)
	is(t, c, 4, 1, false)
	begin(t, c, api.OK)
	is(t, c, 4, 1, true)
}

// P16.2: in each round the colours change sides, nobody has turned or reported at first, and what was new before counts no more.
func TestRounds(t *testing.T) {
	for n := 1; n <= api.MaxFeds; n++ {
		c, value := made(t, n), 0
		for r := range 5 {
			old := r % 2
			begin(t, c, api.OK)
			for i := range n {
				if c.Colour(i) != old {
					t.Errorf("of %d, round %d: Colour(%d) is %d", n, r, i, c.Colour(i))
				}
				report(t, c, i, 1000, api.ErrOrder)
			}
			for i := range n {
				turn(t, c, i, api.OK)
				sent(t, c, i, 10*r+20-i, 1-old, api.OK)
				got(t, c, n-1-i, 1-old, api.OK)
			}
			for i := range n {
				is(t, c, value, r, true)
				report(t, c, i, 1000, api.OK)
			}
			value = 10*r + 20 - (n - 1)
			is(t, c, value, r+1, false)
		}
	}
}

// P16.3: Sent asks for a participant and a time; what it refuses changes nothing.
func TestSentWrong(t *testing.T) {
	c := turned(t, made(t, 3), 3)
	for _, i := range numbers {
		if i < 0 || i >= 3 {
			sent(t, c, i, 4, 0, api.ErrArg)
			sent(t, c, i, -1, 0, api.ErrArg)
		}
	}
	for _, at := range noTimes {
		for i := range 3 {
			sent(t, c, i, at, 0, api.ErrArg)
		}
	}
	got(t, c, 0, 0, api.ErrArg)
	got(t, c, 0, 1, api.ErrArg)
	for i := range 3 {
		report(t, c, i, 9, api.OK)
	}
	is(t, c, 9, 1, false)
}

// P16.3: all times may be sent, within a round and out of one, Inf among them.
func TestSentTimes(t *testing.T) {
	for _, at := range times {
		c := made(t, 1)
		sent(t, c, 0, at, 0, api.OK)
		got(t, c, 0, 0, api.OK)
		turned(t, c, 1)
		sent(t, c, 0, at, 1, api.OK)
		report(t, c, 0, api.Inf, api.OK)
		is(t, c, at, 1, false)
		sent(t, c, 0, at, 1, api.OK)
	}
}

// P16.3: what is sent has its sender's colour, before and after it turns, and when the round is over.
func TestSentColour(t *testing.T) {
	c := made(t, 2)
	sent(t, c, 0, 5, 0, api.OK)
	begin(t, c, api.OK)
	sent(t, c, 1, 5, 0, api.OK)
	turn(t, c, 1, api.OK)
	sent(t, c, 1, 5, 1, api.OK)
	sent(t, c, 0, 5, 0, api.OK)
	turn(t, c, 0, api.OK)
	sent(t, c, 0, 5, 1, api.OK)
	for range 3 {
		got(t, c, 0, 0, api.OK)
	}
	report(t, c, 0, 5, api.OK)
	report(t, c, 1, 5, api.OK)
	sent(t, c, 0, 5, 1, api.OK)
	begin(t, c, api.OK)
	sent(t, c, 0, 5, 1, api.OK)
	turn(t, c, 0, api.OK)
	sent(t, c, 0, 5, 0, api.OK)
	sent(t, c, 1, 5, 1, api.OK)
}

// P16.3: the least new time is that of those that have turned, till the round is over; of nothing else.
func TestLeastNewTime(t *testing.T) {
	c := made(t, 2)
	sent(t, c, 0, 1, 0, api.OK)
	got(t, c, 1, 0, api.OK)
	begin(t, c, api.OK)
	sent(t, c, 0, 2, 0, api.OK)
	turn(t, c, 0, api.OK)
	sent(t, c, 0, 9, 1, api.OK)
	sent(t, c, 1, 3, 0, api.OK)
	turn(t, c, 1, api.OK)
	sent(t, c, 1, 12, 1, api.OK)
	got(t, c, 0, 0, api.OK)
	got(t, c, 0, 0, api.OK)
	report(t, c, 1, 11, api.OK)
	// 8 is the least, though who sent it has reported, and though it comes while the round is under way.
	sent(t, c, 1, 8, 1, api.OK)
	got(t, c, 0, 1, api.OK)
	report(t, c, 0, 20, api.OK)
	is(t, c, 8, 1, false)
	// What is sent between two rounds is of none of them.
	sent(t, c, 0, 4, 1, api.OK)
	for range 3 {
		got(t, c, 1, 1, api.OK)
	}
	round(t, c, 31, 30)
	is(t, c, 30, 2, false)
}

// P16.3: Got asks for a participant, a colour, and something of that colour on its way.
func TestGotWrong(t *testing.T) {
	c := made(t, 2)
	sent(t, c, 0, 5, 0, api.OK)
	begin(t, c, api.OK)
	turn(t, c, 1, api.OK)
	got(t, c, 0, 1, api.ErrArg)
	sent(t, c, 1, 5, 1, api.OK)
	for _, i := range numbers {
		for colour := range 2 {
			if i < 0 || i > 1 {
				got(t, c, i, colour, api.ErrArg)
			}
		}
		if i != 0 && i != 1 {
			got(t, c, 0, i, api.ErrArg)
		}
	}
	for colour := range 2 {
		got(t, c, 0, colour, api.OK)
		got(t, c, 0, colour, api.ErrArg)
	}
}

// P16.3: of each colour as many come as were sent, to whomever: to who sent it, too.
func TestGotCounts(t *testing.T) {
	c := made(t, 3)
	for i := range 30 {
		sent(t, c, i%3, i, 0, api.OK)
	}
	begin(t, c, api.OK)
	turn(t, c, 2, api.OK)
	for i := range 20 {
		sent(t, c, 2, i, 1, api.OK)
	}
	for range 30 {
		got(t, c, 2, 0, api.OK)
	}
	got(t, c, 2, 0, api.ErrArg)
	for range 20 {
		got(t, c, 0, 1, api.OK)
	}
	got(t, c, 0, 1, api.ErrArg)
}

// P16.4: who turns, turns once a round, and nobody else with it; what is refused changes nothing.
func TestTurn(t *testing.T) {
	c := made(t, 3)
	turn(t, c, 1, api.ErrOrder)
	colours(t, c, 0, 0, 0)
	begin(t, c, api.OK)
	turn(t, c, 1, api.OK)
	colours(t, c, 0, 1, 0)
	turn(t, c, 1, api.ErrOrder)
	colours(t, c, 0, 1, 0)
	turn(t, c, 2, api.OK)
	turn(t, c, 0, api.OK)
	colours(t, c, 1, 1, 1)
	for i := range 3 {
		turn(t, c, i, api.ErrOrder)
		report(t, c, i, 5, api.OK)
	}
	colours(t, c, 1, 1, 1)
	turn(t, c, 0, api.ErrOrder)
	begin(t, c, api.OK)
	turn(t, c, 0, api.OK)
	colours(t, c, 0, 1, 1)
}

// P16.4: ErrArg is named ahead of ErrOrder.
func TestTurnWrong(t *testing.T) {
	c := made(t, 2)
	for range 2 {
		for _, i := range numbers {
			if i < 0 || i > 1 {
				turn(t, c, i, api.ErrArg)
			}
		}
		colours(t, c, 0, 0)
		c.Begin()
	}
}

// P16.5: ErrArg is named ahead of ErrOrder, that ahead of ErrIdle.
func TestReportWhichError(t *testing.T) {
	c := made(t, 2)
	wrong := func() {
		t.Helper()
		for _, i := range numbers {
			if i < 0 || i > 1 {
				report(t, c, i, 5, api.ErrArg)
			}
		}
		for _, local := range noTimes {
			report(t, c, 0, local, api.ErrArg)
		}
	}
	wrong()
	sent(t, c, 0, 5, 0, api.OK)
	report(t, c, 0, 5, api.ErrOrder)
	begin(t, c, api.OK)
	wrong()
	report(t, c, 0, 5, api.ErrOrder)
	turn(t, c, 0, api.OK)
	report(t, c, 0, 5, api.ErrOrder)
	turn(t, c, 1, api.OK)
	wrong()
	report(t, c, 0, 5, api.ErrIdle)
	got(t, c, 1, 0, api.OK)
	wrong()
	report(t, c, 0, 5, api.OK)
	wrong()
	report(t, c, 0, 5, api.ErrOrder)
	report(t, c, 1, 5, api.OK)
	wrong()
	report(t, c, 1, 5, api.ErrOrder)
	is(t, c, 5, 1, false)
}

// P16.5: what is of the old colour is waited for, all of it, in rounds of both sides; what is of the new one is not.
func TestReportIdle(t *testing.T) {
	c := made(t, 2)
	for r := range 4 {
		old := r % 2
		for range 3 {
			sent(t, c, 0, 50, old, api.OK)
		}
		turned(t, c, 2)
		sent(t, c, 1, 60, 1-old, api.OK)
		for range 3 {
			report(t, c, 0, 70, api.ErrIdle)
			report(t, c, 1, 70, api.ErrIdle)
			got(t, c, 1, old, api.OK)
		}
		if r > 0 {
			// That of the new colour of the round ahead.
			report(t, c, 0, 70, api.ErrIdle)
			got(t, c, 1, old, api.OK)
		}
		report(t, c, 1, 70, api.OK)
		is(t, c, min(60, 60*r), r, true)
		report(t, c, 0, 70, api.OK)
		is(t, c, 60, r+1, false)
		got(t, c, 0, old, api.ErrArg)
	}
}

// P16.5: what is refused is not reported.
func TestReportRefused(t *testing.T) {
	c := made(t, 2)
	sent(t, c, 0, 5, 0, api.OK)
	report(t, c, 0, 1, api.ErrOrder)
	turned(t, c, 2)
	report(t, c, 0, 2, api.ErrIdle)
	got(t, c, 1, 0, api.OK)
	report(t, c, 0, 9, api.OK)
	report(t, c, 0, 3, api.ErrOrder)
	report(t, c, 2, 3, api.ErrArg)
	report(t, c, 1, 8, api.OK)
	is(t, c, 8, 1, false)
}

// P16.5: the value is the least of all, wherever it stands, and of all times.
func TestValue(t *testing.T) {
	for n := 1; n <= api.MaxFeds; n++ {
		for low := range n {
			locals := make([]int, n)
			for i := range locals {
				locals[i] = 20 + i
			}
			locals[low] = 4
			c := made(t, n)
			round(t, c, locals...)
			is(t, c, 4, 1, false)
		}
	}
	for _, local := range times {
		c := made(t, 2)
		round(t, c, api.Inf, local)
		is(t, c, local, 1, false)
	}
}

// P16.5: of what was reported and the least new time the lower one counts.
func TestValueOfBoth(t *testing.T) {
	for _, x := range []struct{ local, new, want int }{{5, 9, 5}, {9, 5, 5}, {5, 5, 5}, {0, 5, 0}, {5, 0, 0}, {api.Inf, api.Inf, api.Inf}, {api.Inf, api.MaxTime, api.MaxTime}} {
		c := turned(t, made(t, 2), 2)
		sent(t, c, 0, x.new, 1, api.OK)
		report(t, c, 0, api.Inf, api.OK)
		report(t, c, 1, x.local, api.OK)
		is(t, c, x.want, 1, false)
	}
}

// P16.5: the value does not fall; a round that comes to less is a round.
func TestValueStays(t *testing.T) {
	c, value := made(t, 2), 0
	for r, local := range []int{6, 4, 0, 6, 7, api.MaxTime, 3, api.Inf, api.MaxTime} {
		value = max(value, local)
		round(t, c, api.Inf, local)
		is(t, c, value, r+1, false)
	}
	d := made(t, 1)
	round(t, d, 9)
	turned(t, d, 1)
	sent(t, d, 0, 4, 0, api.OK)
	report(t, d, 0, 10, api.OK)
	is(t, d, 9, 2, false)
}
