package clock_test

import (
	"math"
	"testing"

	"paceline/api"
	"paceline/clock"
)

// made is the clocks of federate self among n.
func made(t *testing.T, n, self int) *clock.Clocks {
	t.Helper()
	c, e := clock.New(n, self)
	if c == nil || e != api.OK {
		t.Fatalf("New(%d, %d): %v, %d", n, self, c, e)
	}
	return c
}

// heard: c answers that error to what it hears.
func heard(t *testing.T, c *clock.Clocks, j, at int, want api.Errno) {
	t.Helper()
	if e := c.Hear(j, at); e != want {
		t.Errorf("Hear(%d, %d): %d, not %d", j, at, e, want)
	}
}

// told: c tells that time, whether it is new, and tells it again as what was told last.
func told(t *testing.T, c *clock.Clocks, first, look, want int, wantNew bool) {
	t.Helper()
	got, is := c.Tell(first, look)
	if got != want || is != wantNew {
		t.Errorf("Tell(%d, %d): %d, %v, not %d, %v", first, look, got, is, want, wantNew)
	}
	if got := c.Told(); got != want {
		t.Errorf("Told behind Tell(%d, %d): %d, not %d", first, look, got, want)
	}
}

// bound: c tells that bound.
func bound(t *testing.T, c *clock.Clocks, want int) {
	t.Helper()
	if got := c.Bound(); got != want {
		t.Errorf("Bound: %d, not %d", got, want)
	}
}

var (
	noTimes = []int{math.MinInt, -api.Inf, -1, api.MaxTime + 1, api.Inf - 1, api.Inf + 1, math.MaxInt}
	// The numbers around all federates, those of none among them.
	numbers = []int{math.MinInt, -api.MaxFeds, -1, 0, 1, 2, 3, 4, 5, 6, 7, 8, 9, 1 << 32, math.MaxInt}
)

// model is clocks by another way than the program's: a place for each federate, -1 where there is no clock.
type model struct {
	clocks [api.MaxFeds]int
	told   int
}

func modelOf(n, self int) *model {
	m := &model{}
	for j := range m.clocks {
		if j >= n || j == self {
			m.clocks[j] = -1
		}
	}
	return m
}

func (m *model) at(j int) int {
	if j < 0 || j >= len(m.clocks) {
		return -1
	}
	return m.clocks[j]
}

func (m *model) hear(j, t int) api.Errno {
	isTime := t >= 0 && t <= api.MaxTime || t == api.Inf
	switch at := m.at(j); {
	case at < 0 || !isTime:
		return api.ErrArg
	case at > t:
		return api.ErrEarly
	}
	m.clocks[j] = t
	return api.OK
}

func (m *model) bound() int {
	least := api.Inf
	for _, t := range m.clocks {
		if t >= 0 && t < least {
			least = t
		}
	}
	return least
}

func (m *model) tell(first, look int) (int, bool) {
	base := max(first, 0)
	if b := m.bound(); base > b {
		base = b
	}
	promise := api.Inf
	if base <= api.MaxTime && look <= api.MaxTime && base+max(look, 0) <= api.MaxTime {
		promise = base + max(look, 0)
	}
	if promise > m.told {
		m.told = promise
		return promise, true
	}
	return m.told, false
}

// same: all that c tells without a change is as of the model.
func (m *model) same(t *testing.T, c *clock.Clocks) {
	t.Helper()
	for _, j := range numbers {
		if got, want := c.At(j), m.at(j); got != want {
			t.Errorf("At(%d): %d, not %d", j, got, want)
		}
	}
	bound(t, c, m.bound())
	if got := c.Told(); got != m.told {
		t.Errorf("Told: %d, not %d", got, m.told)
	}
}

// The chapter's example.
func TestExample(t *testing.T) {
	c := made(t, 3, 0)
	heard(t, c, 1, 5, api.OK)
	heard(t, c, 2, 3, api.OK)
	bound(t, c, 3)
	told(t, c, 9, 2, 5, true)
}

// P11.1: which numbers may be, and what is there at first.
func TestNew(t *testing.T) {
	for _, n := range numbers {
		for _, self := range numbers {
			if n >= 1 && n <= api.MaxFeds && self >= 0 && self < n {
				modelOf(n, self).same(t, made(t, n, self))
			} else if c, e := clock.New(n, self); c != nil || e != api.ErrArg {
				t.Errorf("New(%d, %d): %v, %d", n, self, c, e)
			}
		}
	}
}

// P11.2: each other federate has a clock, and each clock is its own.
func TestHear(t *testing.T) {
	for n := 1; n <= api.MaxFeds; n++ {
		for self := range n {
			c, m := made(t, n, self), modelOf(n, self)
			for _, j := range numbers {
				heard(t, c, j, 10+j&7, m.hear(j, 10+j&7))
				m.same(t, c)
			}
		}
	}
}

// P11.2: what is no time is refused, and changes nothing; 0, MaxTime and Inf are times.
func TestHearTimes(t *testing.T) {
	c, m := made(t, 3, 1), modelOf(3, 1)
	for _, at := range []int{0, 1, 7, api.MaxTime - 1, api.MaxTime, api.Inf} {
		for _, none := range noTimes {
			heard(t, c, 0, none, api.ErrArg)
			heard(t, c, 2, none, api.ErrArg)
		}
		m.same(t, c)
		heard(t, c, 2, at, api.OK)
		m.hear(2, at)
		m.same(t, c)
	}
}

// P11.2: a clock may hear its own time again, but none below it; what is refused changes nothing.
func TestHearEarly(t *testing.T) {
	for _, at := range []int{1, 2, 100, api.MaxTime, api.Inf} {
		c, m := made(t, 3, 2), modelOf(3, 2)
		heard(t, c, 0, at, api.OK)
		m.hear(0, at)
		heard(t, c, 0, at, api.OK)
		for _, early := range []int{0, at / 2, at - 1} {
			// Below Inf stand numbers that are no times.
			if early > api.MaxTime {
				early = api.MaxTime
			}
			heard(t, c, 0, early, api.ErrEarly)
		}
		m.same(t, c)
		heard(t, c, 1, 0, api.OK)
		m.same(t, c)
	}
}

// P11.2: ErrArg is named ahead of ErrEarly.
func TestHearWhichError(t *testing.T) {
	c := made(t, 2, 0)
	heard(t, c, 1, 9, api.OK)
	heard(t, c, 1, -1, api.ErrArg)
	heard(t, c, 0, 3, api.ErrArg)
	heard(t, c, 1, 8, api.ErrEarly)
	heard(t, c, 1, api.Inf, api.OK)
	heard(t, c, 1, api.Inf-1, api.ErrArg)
	heard(t, c, 1, api.MaxTime, api.ErrEarly)
}

// P11.2: the least is found wherever it stands, and rises only when the last clock does.
func TestBound(t *testing.T) {
	for last := range api.MaxFeds - 1 {
		c := made(t, api.MaxFeds, api.MaxFeds-1)
		for j := range api.MaxFeds - 1 {
			if j != last {
				heard(t, c, j, 20+j, api.OK)
				bound(t, c, 0)
			}
		}
		heard(t, c, last, 4, api.OK)
		bound(t, c, 4)
		heard(t, c, last, api.Inf, api.OK)
		if last == 0 {
			bound(t, c, 21)
		} else {
			bound(t, c, 20)
		}
	}
}

// P11.2: Inf is the bound of none, and of clocks that all are there; MaxTime is below it.
func TestBoundInf(t *testing.T) {
	bound(t, made(t, 1, 0), api.Inf)
	c := made(t, 3, 1)
	heard(t, c, 0, api.Inf, api.OK)
	bound(t, c, 0)
	heard(t, c, 2, api.MaxTime, api.OK)
	bound(t, c, api.MaxTime)
	heard(t, c, 2, api.Inf, api.OK)
	bound(t, c, api.Inf)
}

// P11.3: the promise hangs on the least of first and the bound, and numbers count as vtime counts them.
func TestTell(t *testing.T) {
	for _, x := range []struct {
		clock, first, look, want int
		is                       bool
	}{
		{5, 9, 2, 7, true}, {9, 5, 2, 7, true}, {5, 5, 2, 7, true}, {5, 9, 0, 5, true}, {5, 0, 3, 3, true},
		{0, 9, 0, 0, false}, {0, 9, 1, 1, true}, {7, 0, 0, 0, false},
		{5, -1, 2, 2, true}, {5, math.MinInt, 2, 2, true}, {5, -3, 0, 0, false},
		{5, 4, -2, 4, true}, {5, 4, math.MinInt, 4, true}, {0, -9, -9, 0, false},
		{5, api.MaxTime + 1, 1, 6, true}, {5, math.MaxInt, 1, 6, true}, {5, api.Inf, 1, 6, true},
		{api.MaxTime, api.Inf, 0, api.MaxTime, true}, {api.MaxTime, api.Inf, 1, api.Inf, true},
		{api.MaxTime - 2, api.Inf, 2, api.MaxTime, true}, {api.MaxTime - 2, api.Inf, 3, api.Inf, true},
		{api.Inf, api.Inf, 0, api.Inf, true}, {api.Inf, api.MaxTime + 1, 0, api.Inf, true}, {api.Inf, 4, 3, 7, true},
		{5, 9, api.MaxTime, api.Inf, true}, {0, 9, api.MaxTime, api.MaxTime, true}, {0, 9, api.MaxTime + 1, api.Inf, true},
		{5, 9, api.Inf, api.Inf, true}, {5, 9, math.MaxInt, api.Inf, true},
	} {
		c := made(t, 2, 0)
		heard(t, c, 1, x.clock, api.OK)
		told(t, c, x.first, x.look, x.want, x.is)
		told(t, c, x.first, x.look, x.want, false)
		bound(t, c, x.clock)
	}
}

// P11.3: what is not above what was told last is not told; it is again as soon as it is.
func TestTellOnlyWhatIsNew(t *testing.T) {
	c := made(t, 3, 1)
	heard(t, c, 0, 10, api.OK)
	heard(t, c, 2, 6, api.OK)
	told(t, c, api.Inf, 3, 9, true)
	told(t, c, api.Inf, 3, 9, false)
	told(t, c, api.Inf, 2, 9, false)
	told(t, c, 1, 3, 9, false)
	told(t, c, -5, -5, 9, false)
	heard(t, c, 0, 11, api.OK)
	told(t, c, api.Inf, 3, 9, false)
	heard(t, c, 2, 7, api.OK)
	told(t, c, 6, 3, 9, false)
	told(t, c, 7, 3, 10, true)
	heard(t, c, 2, 12, api.OK)
	told(t, c, api.Inf, 3, 14, true)
	told(t, c, 0, api.Inf, api.Inf, true)
	told(t, c, api.Inf, api.Inf, api.Inf, false)
	told(t, c, 0, 0, api.Inf, false)
}

// P11.3: who is alone promises by its first message alone.
func TestTellAlone(t *testing.T) {
	c := made(t, 1, 0)
	told(t, c, 0, 0, 0, false)
	told(t, c, 4, 2, 6, true)
	told(t, c, 3, 2, 6, false)
	told(t, c, api.MaxTime, 0, api.MaxTime, true)
	told(t, c, api.Inf, 0, api.Inf, true)
}

// P11.1, with R3: two objects have nothing in common.
func TestClocksAreTheirOwn(t *testing.T) {
	c, d := made(t, 3, 0), made(t, 3, 0)
	heard(t, c, 1, 8, api.OK)
	heard(t, c, 2, 9, api.OK)
	told(t, c, api.Inf, 1, 9, true)
	modelOf(3, 0).same(t, d)
	heard(t, d, 1, 2, api.OK)
	if c.At(1) != 8 || d.At(1) != 2 {
		t.Errorf("At(1): %d, %d", c.At(1), d.At(1))
	}
}

// P11.1 to P11.4: whatever is called, in whatever order, it is as of the model, and what is told never falls.
func TestLongRuns(t *testing.T) {
	times := []int{math.MinInt, -1, 0, 1, api.MaxTime - 1, api.MaxTime, api.MaxTime + 1, api.Inf - 1, api.Inf, api.Inf + 1, math.MaxInt}
	for n := 1; n <= api.MaxFeds; n++ {
		for run := range 20 {
			self := run % n
			c, m := made(t, n, self), modelOf(n, self)
			seed := uint64(100*n + run)
			draw := func(below int) int {
				seed = seed*6364136223846793005 + 1442695040888963407
				return int((seed >> 33) % uint64(below))
			}
			// Times rise with the steps, and only now and then one is drawn that leaves no way further.
			time := func(step int) int {
				if draw(60) == 0 {
					return times[draw(len(times))]
				}
				return step/4 + draw(20)
			}
			for step := range 400 {
				last := c.Told()
				if draw(3) > 0 {
					j, at := draw(n+2)-1, time(step)
					heard(t, c, j, at, m.hear(j, at))
				} else {
					first, look := time(step), draw(4)-1
					want, is := m.tell(first, look)
					told(t, c, first, look, want, is)
				}
				m.same(t, c)
				if c.Told() < last {
					t.Errorf("Told: %d behind %d", c.Told(), last)
				}
				if t.Failed() {
					t.Fatalf("of %d, run %d, at step %d", n, run, step)
				}
			}
		}
	}
}

// all makes the clocks of all of n federates, each of which has heard of each other one that it is at the time from.
func all(t *testing.T, n, from int) []*clock.Clocks {
	t.Helper()
	var them []*clock.Clocks
	for self := range n {
		c := made(t, n, self)
		for j := range n {
			if j != self {
				heard(t, c, j, from, api.OK)
			}
		}
		them = append(them, c)
	}
	return them
}

// spread lets the federate self tell, and all others hear what is new.
func spread(t *testing.T, them []*clock.Clocks, self, look int) {
	t.Helper()
	promise, is := them[self].Tell(api.Inf, look)
	for j, c := range them {
		if is && j != self {
			heard(t, c, self, promise, api.OK)
		}
	}
}

// P11.4: where each lookahead is 1 at least, and all that is told is heard, all clocks rise above any time.
func TestAllClocksRise(t *testing.T) {
	for _, x := range []struct{ from, above, look, turns int }{
		{0, 500, 1, 501}, {0, 500, 3, 501},
		{api.MaxTime - 40, api.MaxTime, 1, 42}, {api.MaxTime, api.MaxTime, 1, 1},
		{0, api.MaxTime, api.MaxTime / 16, 17},
	} {
		for n := 2; n <= api.MaxFeds; n++ {
			them := all(t, n, x.from)
			for range x.turns {
				for self := range n {
					// Those of odd numbers look twice as far ahead: who looks the least far sets the pace.
					spread(t, them, self, x.look+self%2*x.look)
				}
			}
			for self, c := range them {
				if c.Bound() <= x.above {
					t.Errorf("of %d, from %d: the bound of %d is %d, not above %d", n, x.from, self, c.Bound(), x.above)
				}
			}
		}
	}
}

// P11.3: who has no lookahead promises nothing above the bound: where nobody has one, nobody rises.
func TestNoLookahead(t *testing.T) {
	them := all(t, 3, 0)
	for range 10 {
		for self, c := range them {
			spread(t, them, self, 0)
			bound(t, c, 0)
		}
	}
}
