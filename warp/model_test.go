package warp_test

import (
	"cmp"
	"math"
	"slices"
	"testing"

	"paceline/api"
	"paceline/config"
	"paceline/table"
	"paceline/warp"
)

// model is a node by another way than the program's: it keeps the messages alone, and works all that comes of them out anew.
type model struct {
	w      api.World
	self   int
	clocks map[int]int
	floor  int
	// What it was when the first of the known ones was taken.
	state, sent int
	// In order; the first ones are taken, the others wait.
	known []api.Msg
	taken int
	log   []api.Done
}

// act is what comes of one message.
type act struct {
	done api.Done
	outs []api.Msg
}

func modelOf(w api.World, f int) *model {
	m := &model{w: copied(w), self: f, clocks: map[int]int{}, state: w.Feds[f].Start, sent: len(w.Feds[f].Init)}
	for j, fed := range w.Feds {
		if fed.Kind == 0 {
			m.clocks[j] = 0
		}
	}
	return m
}

// walked are what comes of messages, one behind the other; the state, and how many were sent, in the end.
func walked(w api.World, f, state, sent int, msgs []api.Msg) ([]act, int, int) {
	var acts []act
	for _, m := range msgs {
		next, sends := table.Step(w.Feds[f].Rules, state, m.Class)
		acts = append(acts, act{api.Done{Msg: m, State: next}, config.Spread(w, f, sent, m.Key.T, m.Body, sends)})
		state, sent = next, sent+len(sends)
	}
	return acts, state, sent
}

// to are the messages of acts that go to federates of that kind.
func to(w api.World, kind int, acts ...act) []api.Msg {
	var all []api.Msg
	for _, a := range acts {
		for _, m := range a.outs {
			if w.Feds[m.To].Kind == kind {
				all = append(all, m)
			}
		}
	}
	return all
}

// acts are what comes of what is taken, and the state in the end.
func (m *model) acts() ([]act, int) {
	l, state, _ := walked(m.w, m.self, m.state, m.sent, m.known[:m.taken])
	return l, state
}

func byKey(a, b api.Msg) int {
	return cmp.Or(cmp.Compare(a.Key.T, b.Key.T), cmp.Compare(a.Key.From, b.Key.From), cmp.Compare(a.Key.Seq, b.Key.Seq))
}

// back undoes what was taken and does not stand ahead of x.
func (m *model) back(x api.Msg) []api.Item {
	acts, _ := m.acts()
	var sent []api.Item
	for m.taken > 0 && byKey(m.known[m.taken-1], x) >= 0 {
		m.taken--
		sent = append(sent, items(anti, to(m.w, 1, acts[m.taken]))...)
	}
	return sent
}

func (m *model) hear(from int, i api.Item) ([]api.Item, api.Errno) {
	if from < 0 || from >= len(m.w.Feds) || from == m.self {
		return nil, api.ErrArg
	}
	clock, is := m.clocks[from]
	at := i.Msg.Key.T
	switch i.Kind {
	case api.Bound:
		if !is || at < 0 || at > api.MaxTime && at != api.Inf {
			return nil, api.ErrArg
		}
		if at < clock {
			return nil, api.ErrEarly
		}
		m.clocks[from] = at
		return nil, api.OK
	case api.Plain:
		if at < m.floor || at < clock {
			return nil, api.ErrEarly
		}
		return m.hearPlain(i.Msg)
	case api.Anti:
		if is {
			return nil, api.ErrArg
		}
		if at < m.floor {
			return nil, api.ErrEarly
		}
		return m.hearAnti(i.Msg)
	}
	return nil, api.ErrOrder
}

// undone tells how many of what was taken do not stand ahead of x.
func (m *model) undone(x api.Msg) int {
	n := 0
	for _, y := range m.known[:m.taken] {
		if byKey(y, x) >= 0 {
			n++
		}
	}
	return n
}

func (m *model) hearPlain(x api.Msg) ([]api.Item, api.Errno) {
	at, is := slices.BinarySearchFunc(m.known, x, byKey)
	if is {
		return nil, api.ErrTwice
	}
	if len(m.known)-m.taken+m.undone(x)+1 > api.MaxQueue {
		return nil, api.ErrFull
	}
	sent := m.back(x)
	m.known = slices.Insert(m.known, at, x)
	return sent, api.OK
}

func (m *model) hearAnti(x api.Msg) ([]api.Item, api.Errno) {
	at, is := slices.BinarySearchFunc(m.known, x, byKey)
	if !is {
		return nil, api.ErrNone
	}
	if at < m.taken && len(m.known)-m.taken+m.undone(x) > api.MaxQueue+1 {
		return nil, api.ErrFull
	}
	sent := m.back(x)
	m.known = slices.Delete(m.known, at, at+1)
	return sent, api.OK
}

func (m *model) step() (api.Done, []api.Item, api.Errno) {
	if m.taken == len(m.known) || m.known[m.taken].Key.T >= m.w.End {
		return api.Done{}, nil, api.ErrIdle
	}
	acts, _ := m.acts()
	if m.taken == api.MaxQueue || len(to(m.w, 0, acts...)) > 3*api.MaxQueue {
		return api.Done{}, nil, api.ErrFull
	}
	m.taken++
	acts, _ = m.acts()
	last := acts[m.taken-1]
	return last.done, items(plain, to(m.w, 1, last)), api.OK
}

func (m *model) commit(t int) ([]api.Done, []api.Msg, api.Errno) {
	if t < m.floor {
		return nil, nil, api.ErrEarly
	}
	if t > m.local() {
		return nil, nil, api.ErrOrder
	}
	n := 0
	for n < m.taken && m.known[n].Key.T < t {
		n++
	}
	var acts []act
	acts, m.state, m.sent = walked(m.w, m.self, m.state, m.sent, m.known[:n])
	m.known, m.taken, m.floor = m.known[n:], m.taken-n, t
	var settled []api.Done
	for _, a := range acts {
		settled = append(settled, a.done)
	}
	m.log = append(m.log, settled...)
	return settled, to(m.w, 0, acts...), api.OK
}

func (m *model) local() int {
	least := api.Inf
	for _, t := range m.clocks {
		least = min(least, t)
	}
	if m.taken < len(m.known) && m.known[m.taken].Key.T <= api.MaxTime {
		least = min(least, m.known[m.taken].Key.T)
	}
	return least
}

// same: all that x tells without a change is as of the model.
func (m *model) same(t *testing.T, x *warp.Node) {
	t.Helper()
	_, state := m.acts()
	promise := m.floor + m.w.Feds[m.self].Look
	if promise > api.MaxTime {
		promise = api.Inf
	}
	want := told{state, m.taken, m.floor, m.local(), promise, m.known[m.taken:], m.log}
	if is := tells(x); !is.same(want) {
		t.Errorf("%v, not %v", is, want)
	}
}

// numbers tells numbers below n, the same ones for the same seed.
func numbers(seed uint64) func(n int) int {
	return func(n int) int {
		seed = seed*6364136223846793005 + 1442695040888963407
		return int((seed >> 33) % uint64(n))
	}
}

// drawn is an item by chance, mostly of a time from the floor on, or about that of the last one that was taken; what is taken back is mostly there.
func (m *model) drawn(next func(int) int, lazy bool) (int, api.Item) {
	at := m.floor + next(25)
	if lazy && m.taken > 0 {
		at = m.known[m.taken-1].Key.T + next(15) - 3
	}
	x := message(at, next(api.MaxFeds), next(6), next(9), next(len(m.w.Parents)+1), next(1200)-100)
	if next(100) == 0 {
		far := []int{math.MinInt, -1, 0, api.MaxTime, api.MaxTime + 1, api.Inf, math.MaxInt}
		x.Key.T = far[next(len(far))]
	}
	kind := []int{api.Plain, api.Plain, api.Plain, api.Plain, api.Anti, api.Bound}[next(6)]
	if next(40) == 0 {
		kind = noKinds[next(len(noKinds))]
	}
	if kind == api.Anti && next(4) > 0 && len(m.known) > 0 {
		x.Key = m.known[len(m.known)-1-next(min(20, len(m.known)))].Key
	}
	if kind == api.Bound {
		x.Key.T = min(x.Key.T, m.floor+next(15))
	}
	from := next(len(m.w.Feds))
	if next(20) == 0 {
		from = next(api.MaxFeds+2) - 1
	}
	return from, api.Item{Kind: kind, Msg: x, Colour: next(2)}
}

// busy counts what happened in the runs, of which some are lazy: they seldom settle anything.
type busy struct {
	lazy                                      bool
	settled, out, antis, fullHears, fullSteps int
}

// one does one thing, by chance, with both the node and its model: what they answer is the same.
func (b *busy) one(t *testing.T, x *warp.Node, m *model, next func(int) int) {
	t.Helper()
	switch next(9) {
	case 0, 1, 2, 3:
		d, l, e := x.Step()
		if want, sent, wantE := m.step(); d != want || e != wantE || !slices.Equal(l, sent) {
			t.Errorf("Step: %v, %v, %d, not %v, %v, %d", d, l, e, want, sent, wantE)
		}
		if e == api.ErrFull {
			b.fullSteps++
		}
	case 4:
		// Now and then much stays unsettled for long.
		if b.lazy && next(30) > 0 {
			return
		}
		at := m.floor + next(m.w.End/8+4) - 1
		if next(4) == 0 {
			at = m.local() + next(2)
		}
		// Far ahead nothing would happen any more.
		at = min(at, m.floor+6)
		d, l, e := x.Commit(at)
		want, out, wantE := m.commit(at)
		if !slices.Equal(d, want) || e != wantE || !slices.Equal(l, out) {
			t.Errorf("Commit(%d): %v, %v, %d, not %v, %v, %d", at, d, l, e, want, out, wantE)
		}
		b.settled, b.out = b.settled+len(d), b.out+len(l)
	default:
		from, i := m.drawn(next, b.lazy)
		l, e := x.Hear(from, i)
		if want, wantE := m.hear(from, i); e != wantE || !slices.Equal(l, want) {
			t.Errorf("Hear(%d, %v): %v, %d, not %v, %d", from, i, l, e, want, wantE)
		}
		b.antis += len(l)
		if e == api.ErrFull {
			b.fullHears++
		}
	}
}

// P15.1 to P15.6: whatever is called, in whatever order, it is as of the model.
func TestLongRuns(t *testing.T) {
	var b busy
	for run, w := range worlds(t, 2000) {
		f := run % len(w.Feds)
		w.Feds[f].Kind = 1
		x, m := made(t, w, f), modelOf(w, f)
		next := numbers(uint64(run))
		b.lazy = run%3 == 0
		for step := range 600 {
			b.one(t, x, m, next)
			m.same(t, x)
			if t.Failed() {
				t.Fatalf("federate %d of federation %d, at step %d", f, run, step)
			}
		}
	}
	if b.settled < 1000 || b.out < 500 || b.antis < 3000 || b.fullHears < 100 || b.fullSteps < 100 {
		t.Errorf("the runs are too quiet: %+v", b)
	}
}
