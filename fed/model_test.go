package fed_test

import (
	"math"
	"slices"
	"testing"

	"paceline/api"
	"paceline/cmb"
	"paceline/config"
	"paceline/fed"
	"paceline/warp"
)

// carried is an item on its way, and how often who sent it had turned by then.
type carried struct {
	i     api.Item
	turns int
}

// model is a kernel by another way than the program's: it has no cut and no colours, but looks for what is on its way on the links themselves.
type model struct {
	w     api.World
	room  int
	slow  [api.MaxFeds]*cmb.Node
	fast  [api.MaxFeds]*warp.Node
	outs  [api.MaxFeds][]api.Item
	links [api.MaxFeds][api.MaxFeds][]carried
	told  [api.MaxFeds]int
	// How many rounds were begun; how many of them each has turned in, and reported in.
	rounds         int
	turns, reports [api.MaxFeds]int
	least, value   int
	under, isThere bool
	// How many were taken back.
	antis int
}

func modelOf(t *testing.T, w api.World, room int) *model {
	t.Helper()
	m := &model{w: w, room: room}
	for f, x := range w.Feds {
		var e api.Errno
		if x.Kind == 1 {
			m.isThere = true
			m.fast[f], e = warp.New(w, f)
		} else {
			m.slow[f], e = cmb.New(w, f)
		}
		if e != api.OK {
			t.Fatalf("the node of %d: %d", f, e)
		}
		m.outs[f] = starts(w, f)
	}
	return m
}

// starts are f's first messages.
func starts(w api.World, f int) []api.Item {
	var l []api.Item
	for _, x := range config.Starts(w) {
		if x.Key.From == f {
			l = append(l, plain(x))
		}
	}
	return l
}

func (m *model) is(f int) bool { return f >= 0 && f < len(m.w.Feds) }

// counts tells whether the cut counts i from a to b.
func (m *model) counts(a, b int, i api.Item) bool {
	return m.w.Feds[a].Kind == 1 && m.w.Feds[b].Kind == 1 && i.Kind != api.Bound
}

func (m *model) do(o fed.Op) api.Errno {
	switch o.Kind {
	case step, flush, tell, turn, report:
		if !m.is(o.A) {
			return api.ErrArg
		}
	case deliver:
		if !m.is(o.A) || !m.is(o.B) {
			return api.ErrArg
		}
	case begin:
		return m.begin()
	default:
		return api.ErrArg
	}
	switch o.Kind {
	case step:
		return m.step(o.A)
	case flush:
		return m.flush(o.A)
	case deliver:
		return m.deliver(o.A, o.B)
	case tell:
		return m.tell(o.A)
	}
	if m.fast[o.A] == nil {
		return api.ErrArg
	}
	if o.Kind == turn {
		return m.turn(o.A)
	}
	return m.report(o.A)
}

func (m *model) step(f int) api.Errno {
	if len(m.outs[f]) > 0 {
		return api.ErrFull
	}
	if x := m.fast[f]; x != nil {
		_, l, e := x.Step()
		m.outs[f] = append(m.outs[f], l...)
		return e
	}
	_, l, e := m.slow[f].Step()
	for _, x := range l {
		m.outs[f] = append(m.outs[f], plain(x))
	}
	return e
}

func (m *model) flush(f int) api.Errno {
	if len(m.outs[f]) == 0 {
		return api.ErrIdle
	}
	i := m.outs[f][0]
	l := &m.links[f][i.Msg.To]
	if len(*l) == m.room {
		return api.ErrFull
	}
	*l = append(*l, carried{i, m.turns[f]})
	m.outs[f] = m.outs[f][1:]
	if m.counts(f, i.Msg.To, i) && m.under && m.turns[f] == m.rounds {
		m.least = min(m.least, i.Msg.Key.T)
	}
	return api.OK
}

func (m *model) deliver(a, b int) api.Errno {
	l := m.links[a][b]
	if len(l) == 0 {
		return api.ErrIdle
	}
	if x := m.slow[b]; x != nil {
		if e := x.Hear(a, l[0].i); e != api.OK {
			return e
		}
	} else {
		sent, e := m.fast[b].Hear(a, l[0].i)
		if e != api.OK {
			return e
		}
		m.outs[b] = append(m.outs[b], sent...)
		m.antis += len(sent)
	}
	m.links[a][b] = l[1:]
	return api.OK
}

func (m *model) tell(f int) api.Errno {
	if len(m.outs[f]) > 0 {
		return api.ErrFull
	}
	var at int
	if x := m.fast[f]; x != nil {
		at = x.Promise()
	} else {
		at, _ = m.slow[f].Tell()
	}
	if at <= m.told[f] {
		return api.ErrIdle
	}
	m.told[f] = at
	for to := range m.w.Feds {
		if to != f && (m.slow[f] != nil || m.slow[to] != nil) {
			m.outs[f] = append(m.outs[f], bound(at, to))
		}
	}
	return api.OK
}

func (m *model) begin() api.Errno {
	if !m.isThere {
		return api.ErrIdle
	}
	if m.under {
		return api.ErrOrder
	}
	m.under, m.least = true, api.Inf
	m.rounds++
	return api.OK
}

func (m *model) turn(f int) api.Errno {
	if !m.under || m.turns[f] == m.rounds {
		return api.ErrOrder
	}
	m.turns[f]++
	return api.OK
}

// behind tells whether an optimistic federate has not done, in the round under way, what these are the counts of.
func (m *model) behind(counts [api.MaxFeds]int) bool {
	for f, x := range m.fast {
		if x != nil && counts[f] < m.rounds {
			return true
		}
	}
	return false
}

// isOldUnderWay tells whether something is on its way of who had not turned in this round.
func (m *model) isOldUnderWay() bool {
	for a := range m.w.Feds {
		for b := range m.w.Feds {
			if slices.ContainsFunc(m.links[a][b], func(c carried) bool { return m.counts(a, b, c.i) && c.turns < m.rounds }) {
				return true
			}
		}
	}
	return false
}

func (m *model) report(f int) api.Errno {
	if !m.under || m.behind(m.turns) || m.reports[f] == m.rounds {
		return api.ErrOrder
	}
	if m.isOldUnderWay() {
		return api.ErrIdle
	}
	m.reports[f]++
	m.least = min(m.least, m.fast[f].Local())
	for _, i := range m.outs[f] {
		if m.counts(f, i.Msg.To, i) {
			m.least = min(m.least, i.Msg.Key.T)
		}
	}
	if !m.behind(m.reports) {
		m.under = false
		m.value = max(m.value, m.least)
		m.commit()
	}
	return api.OK
}

func (m *model) commit() {
	for f, x := range m.fast {
		if x == nil {
			continue
		}
		_, l, e := x.Commit(m.value)
		if e != api.OK {
			panic("what is settled is refused")
		}
		for _, y := range l {
			m.outs[f] = append(m.outs[f], plain(y))
		}
	}
}

// isQuiet tells so by going through all that there is.
func (m *model) isQuiet() bool {
	for f := range m.w.Feds {
		all := slices.Clone(m.outs[f])
		for _, l := range m.links[f] {
			for _, c := range l {
				all = append(all, c.i)
			}
		}
		for _, i := range all {
			if i.Kind == api.Plain || i.Kind == api.Anti {
				return false
			}
		}
		var waiting []api.Msg
		if x := m.fast[f]; x != nil {
			waiting = x.Waiting()
			if x.Ahead() > 0 {
				return false
			}
		} else {
			waiting = m.slow[f].Waiting()
		}
		for _, x := range waiting {
			if x.Key.T < m.w.End {
				return false
			}
		}
	}
	return true
}

func (m *model) tells() told {
	a := told{value: m.value, quiet: m.isQuiet()}
	for i := range a.states {
		f := i - 1
		switch {
		case !m.is(f):
			a.states[i] = -1
		case m.fast[f] != nil:
			a.states[i], a.logs[i], a.outs[i] = m.fast[f].State(), m.fast[f].Log(), m.outs[f]
		default:
			a.states[i], a.logs[i], a.outs[i] = m.slow[f].State(), m.slow[f].Log(), m.outs[f]
		}
	}
	return a
}

// numbers tells numbers below n, the same ones for the same seed.
func numbers(seed uint64) func(n int) int {
	return func(n int) int {
		seed = seed*6364136223846793005 + 1442695040888963407
		return int((seed >> 33) % uint64(n))
	}
}

// worlds are many federations that may be, of federates of both kinds, which end before that time.
func worlds(t *testing.T, latest int) []api.World {
	t.Helper()
	next := numbers(17)
	all := []api.World{mixed(), fast(), chain(), settled(), lone(0), lone(1)}
	for kinds := range 8 {
		all = append(all, pair(40, kinds&1, kinds>>1&1), heard(30, kinds&1, kinds>>1&1, kinds>>2))
	}
	for range 200 {
		w := api.World{Parents: make([]int, 1+next(5)), Feds: make([]api.Fed, 1+next(api.MaxFeds)), End: next(latest)}
		for c := range w.Parents {
			w.Parents[c] = next(c+1) - 1
		}
		// From all conservative ones to all optimistic ones.
		share := next(5)
		for f := range w.Feds {
			w.Feds[f] = anyFed(next, len(w.Parents), share)
		}
		if f, e := config.Check(w); e != api.OK {
			t.Fatalf("Check(%v): %d, %d", w, f, e)
		}
		all = append(all, w)
	}
	return all
}

// anyFed is a federate that may be, where there are so many classes; so many of four are optimistic.
func anyFed(next func(int) int, classes, share int) api.Fed {
	x := api.Fed{Look: 1 + next(4), Start: next(3)}
	if next(4) < share {
		x.Kind = 1
	}
	for c := range classes {
		if next(3) > 0 {
			x.Pubs = append(x.Pubs, c)
		}
		if next(5) < 2 {
			x.Subs = append(x.Subs, c)
		}
	}
	outs := func(n, least int) []api.Out {
		if len(x.Pubs) == 0 {
			return nil
		}
		l := make([]api.Out, n)
		for i := range l {
			l[i] = api.Out{Class: x.Pubs[next(len(x.Pubs))], Delay: least + next(5), Add: next(api.MaxBody)}
		}
		return l
	}
	for state := range 3 {
		for class := range classes {
			if next(4) > 0 {
				x.Rules = append(x.Rules, api.Rule{State: state, Class: class, Next: next(3), Sends: outs(max(0, next(6)-3), x.Look)})
			}
		}
	}
	x.Init = outs(next(5), 0)
	return x
}

// drawn is an op by chance, now and then one that may not be.
func drawn(next func(int) int, feds int) fed.Op {
	kinds := []int{step, step, step, flush, flush, flush, flush, flush, deliver, deliver, deliver, deliver, deliver, deliver, tell, begin, turn, turn, report, report}
	o := fed.Op{Kind: kinds[next(len(kinds))], A: next(feds), B: next(feds)}
	if next(60) == 0 {
		far := []int{math.MinInt, -2, -1, feds, feds + 1, api.MaxFeds, math.MaxInt}
		*[]*int{&o.Kind, &o.A, &o.B}[next(3)] = far[next(len(far))]
	}
	return o
}

// isVain tells whether o moves nothing, as nothing is there.
func (m *model) isVain(o fed.Op) bool {
	switch {
	case o.Kind == flush && m.is(o.A):
		return len(m.outs[o.A]) == 0
	case o.Kind == deliver && m.is(o.A) && m.is(o.B):
		return len(m.links[o.A][o.B]) == 0
	}
	return false
}

// P17.1 to P17.3: long runs of all kinds of ops, held against the model at each step.
func TestModel(t *testing.T) {
	antis, rounds, taken := 0, 0, 0
	for i, w := range worlds(t, 120) {
		for n := range 2 {
			next := numbers(uint64(1000*i + n))
			room := []int{1, 2, 3, api.MaxLink}[next(4)]
			k, m := made(t, w, room), modelOf(t, w, room)
			for range 3000 {
				o := drawn(next, len(w.Feds))
				for n := 0; n < 8 && m.isVain(o); n++ {
					o = drawn(next, len(w.Feds))
				}
				got, want := k.Do(o), m.do(o)
				if got != want {
					t.Fatalf("federation %d: Do(%v): %d, not %d", i, o, got, want)
				}
				if is, should := tells(k), m.tells(); !is.same(should) {
					t.Fatalf("federation %d: behind %v: %v, not %v", i, o, is, should)
				}
			}
			antis, rounds = antis+m.antis, rounds+m.rounds
			for f := range w.Feds {
				taken += len(k.Log(f))
			}
		}
	}
	if antis < 500 || rounds < 500 || taken < 2000 {
		t.Errorf("only %d taken back, %d rounds, %d taken for good", antis, rounds, taken)
	}
}
