package solo_test

import (
	"math"
	"slices"
	"testing"

	"paceline/api"
	"paceline/config"
	"paceline/solo"
	"paceline/table"
	"paceline/vtime"
)

// pair: 0 sends 1 something at time 3; each answers what it hears 2 later.
func pair(end int) api.World {
	fed := api.Fed{Look: 2, Pubs: []int{0}, Subs: []int{0}, Rules: []api.Rule{
		{State: 0, Class: 0, Next: 0, Sends: []api.Out{{Class: 0, Delay: 2, Add: 1}}},
	}}
	w := api.World{Parents: []int{-1}, End: end, Feds: []api.Fed{fed, copiedFed(fed)}}
	w.Feds[0].Init = []api.Out{{Class: 0, Delay: 3}}
	return w
}

// copiedFed is a federate that shares nothing with fed.
func copiedFed(fed api.Fed) api.Fed {
	fed.Rules = slices.Clone(fed.Rules)
	for r := range fed.Rules {
		fed.Rules[r].Sends = slices.Clone(fed.Rules[r].Sends)
	}
	fed.Pubs, fed.Subs, fed.Init = slices.Clone(fed.Pubs), slices.Clone(fed.Subs), slices.Clone(fed.Init)
	return fed
}

// copied is a world that shares nothing with w.
func copied(w api.World) api.World {
	w.Parents = slices.Clone(w.Parents)
	w.Feds = slices.Clone(w.Feds)
	for f, fed := range w.Feds {
		w.Feds[f] = copiedFed(fed)
	}
	return w
}

// same tells whether all of both is the same.
func same(v, w api.World) bool {
	return v.End == w.End && slices.Equal(v.Parents, w.Parents) && slices.EqualFunc(v.Feds, w.Feds, func(a, b api.Fed) bool {
		return a.Kind == b.Kind && a.Look == b.Look && a.Start == b.Start &&
			slices.Equal(a.Pubs, b.Pubs) && slices.Equal(a.Subs, b.Subs) && slices.Equal(a.Init, b.Init) &&
			slices.EqualFunc(a.Rules, b.Rules, func(r, s api.Rule) bool {
				return r.State == s.State && r.Class == s.Class && r.Next == s.Next && slices.Equal(r.Sends, s.Sends)
			})
	})
}

// spoilt turns every number of w into another one.
func spoilt(w api.World) {
	for c := range w.Parents {
		w.Parents[c] = 77
	}
	for f := range w.Feds {
		fed := &w.Feds[f]
		for _, r := range fed.Rules {
			for i := range r.Sends {
				r.Sends[i] = api.Out{Class: 99, Delay: -5, Add: 5555}
			}
		}
		for i := range fed.Rules {
			fed.Rules[i] = api.Rule{State: 99, Class: 99, Next: 99}
		}
		for _, list := range [][]int{fed.Pubs, fed.Subs} {
			for i := range list {
				list[i] = 99
			}
		}
		for i := range fed.Init {
			fed.Init[i] = api.Out{Class: 99, Delay: 99, Add: 99}
		}
		*fed = api.Fed{}
	}
}

// message puts one together.
func message(at, from, seq, to, class, body int) api.Msg {
	return api.Msg{Key: api.Key{T: at, From: from, Seq: seq}, To: to, Class: class, Body: body}
}

// made is a run of w, which may be.
func made(t *testing.T, w api.World) *solo.Run {
	t.Helper()
	r, e := solo.New(w)
	if r == nil || e != api.OK {
		t.Fatalf("New(%v): %v, %d", w, r, e)
	}
	return r
}

// takes: the next message is m, and it leads to state.
func takes(t *testing.T, r *solo.Run, m api.Msg, state int) {
	t.Helper()
	if d, is := r.Next(); !is || d != (api.Done{Msg: m, State: state}) {
		t.Errorf("Next: %v, %v, not %v, %d", d, is, m, state)
	}
}

// ended: there is no next message.
func ended(t *testing.T, r *solo.Run) {
	t.Helper()
	if d, is := r.Next(); is || d != (api.Done{}) {
		t.Errorf("Next: %v, %v, at the end", d, is)
	}
}

// waits: just these messages do, in this order.
func waits(t *testing.T, r *solo.Run, want ...api.Msg) {
	t.Helper()
	if l := r.Waiting(); !slices.Equal(l, want) {
		t.Errorf("Waiting: %v, not %v", l, want)
	}
}

// states: these are the federates' states, and there are no more federates.
func states(t *testing.T, r *solo.Run, want ...int) {
	t.Helper()
	for f, state := range append(want, -1) {
		if s := r.State(f); s != state {
			t.Errorf("State(%d): %d, not %d", f, s, state)
		}
	}
}

// logged: just these are what f has taken.
func logged(t *testing.T, r *solo.Run, f int, want ...api.Done) {
	t.Helper()
	if l := r.Log(f); !slices.Equal(l, want) {
		t.Errorf("Log(%d): %v, not %v", f, l, want)
	}
}

// numbers tells numbers below n, the same ones for the same seed.
func numbers(seed uint32) func(n int) int {
	return func(n int) int {
		seed = seed*1664525 + 1013904223
		return int(seed>>8) % n
	}
}

// model is a run that looks through all that waits, each time.
type model struct {
	w       api.World
	states  []int
	sent    []int
	logs    [][]api.Done
	waiting []api.Msg
}

func newModel(w api.World) *model {
	m := &model{w: copied(w), logs: make([][]api.Done, len(w.Feds)), waiting: config.Starts(w)}
	for _, fed := range w.Feds {
		m.states = append(m.states, fed.Start)
		m.sent = append(m.sent, len(fed.Init))
	}
	return m
}

// isAhead tells whether a is taken ahead of b.
func isAhead(a, b api.Msg) bool {
	c := vtime.Cmp(a.Key, b.Key)
	return c < 0 || c == 0 && a.To < b.To
}

// inOrder is what waits, each put where it belongs.
func (m *model) inOrder() []api.Msg {
	var l []api.Msg
	for _, x := range m.waiting {
		at := 0
		for at < len(l) && isAhead(l[at], x) {
			at++
		}
		l = slices.Insert(l, at, x)
	}
	return l
}

func (m *model) next() (api.Done, bool) {
	if len(m.waiting) == 0 {
		return api.Done{}, false
	}
	at := 0
	for i, x := range m.waiting {
		if isAhead(x, m.waiting[at]) {
			at = i
		}
	}
	x := m.waiting[at]
	if x.Key.T >= m.w.End {
		return api.Done{}, false
	}
	m.waiting = slices.Delete(m.waiting, at, at+1)
	state, sends := table.Step(m.w.Feds[x.To].Rules, m.states[x.To], x.Class)
	m.waiting = append(m.waiting, config.Spread(m.w, x.To, m.sent[x.To], x.Key.T, x.Body, sends)...)
	m.states[x.To] = state
	m.sent[x.To] += len(sends)
	d := api.Done{Msg: x, State: state}
	m.logs[x.To] = append(m.logs[x.To], d)
	return d, true
}

// worlds are many federations that may be.
func worlds(t *testing.T) []api.World {
	t.Helper()
	next := numbers(9)
	all := []api.World{pair(20)}
	for range 80 {
		w := api.World{Parents: make([]int, 1+next(5)), Feds: make([]api.Fed, 1+next(api.MaxFeds)), End: next(60)}
		for c := range w.Parents {
			w.Parents[c] = next(c+1) - 1
		}
		for f := range w.Feds {
			w.Feds[f] = anyFed(next, len(w.Parents))
		}
		if f, e := config.Check(w); e != api.OK {
			t.Fatalf("Check(%v): %d, %d", w, f, e)
		}
		all = append(all, w)
	}
	return all
}

// anyFed is a federate that may be, where there are so many classes.
func anyFed(next func(int) int, classes int) api.Fed {
	fed := api.Fed{Kind: next(2), Look: 1 + next(4), Start: next(3)}
	for c := range classes {
		if next(3) > 0 {
			fed.Pubs = append(fed.Pubs, c)
		}
		if next(3) == 0 {
			fed.Subs = append(fed.Subs, c)
		}
	}
	outs := func(n, least int) []api.Out {
		if len(fed.Pubs) == 0 {
			return nil
		}
		l := make([]api.Out, n)
		for i := range l {
			l[i] = api.Out{Class: fed.Pubs[next(len(fed.Pubs))], Delay: least + next(5), Add: next(api.MaxBody)}
		}
		return l
	}
	for state := range 3 {
		for class := range classes {
			if next(4) > 0 {
				fed.Rules = append(fed.Rules, api.Rule{State: state, Class: class, Next: next(3), Sends: outs(max(0, next(7)-3), fed.Look)})
			}
		}
	}
	fed.Init = outs(next(5), 0)
	return fed
}

// most is how many steps of a federation are looked at: some send more and more.
const most = 250

// The chapter's example, and the first one of the whole.
func TestExample(t *testing.T) {
	r := made(t, pair(20))
	takes(t, r, message(3, 0, 0, 1, 0, 0), 0)
	takes(t, r, message(5, 1, 0, 0, 0, 1), 0)
	takes(t, r, message(7, 0, 1, 1, 0, 2), 0)
	takes(t, r, message(9, 1, 1, 0, 0, 3), 0)
}

// P9.1: what config.Check does not take makes no run, and its error is told.
func TestNewOfWhatMayNotBe(t *testing.T) {
	for _, x := range []struct {
		e    api.Errno
		turn func(w *api.World)
	}{
		{api.ErrTree, func(w *api.World) { *w = api.World{} }},
		{api.ErrTree, func(w *api.World) { w.Parents, w.End = []int{0}, -1 }},
		{api.ErrArg, func(w *api.World) { w.End = -1 }},
		{api.ErrArg, func(w *api.World) { w.End = api.MaxTime + 1 }},
		{api.ErrArg, func(w *api.World) { w.Feds = nil }},
		{api.ErrArg, func(w *api.World) { w.Feds = slices.Repeat(w.Feds, api.MaxFeds) }},
		{api.ErrArg, func(w *api.World) { w.Feds[1].Kind = 2 }},
		{api.ErrLook, func(w *api.World) { w.Feds[1].Look = 0 }},
		{api.ErrLook, func(w *api.World) { w.Feds[1].Rules[0].Sends[0].Delay = 1 }},
		{api.ErrRule, func(w *api.World) { w.Feds[1].Start = api.MaxState }},
		{api.ErrRule, func(w *api.World) { w.Feds[1].Rules[0].Next = -1 }},
		{api.ErrClass, func(w *api.World) { w.Feds[1].Subs[0] = 1 }},
		{api.ErrInit, func(w *api.World) { w.Feds[0].Init[0].Delay = -1 }},
	} {
		w := pair(20)
		x.turn(&w)
		if r, e := solo.New(w); r != nil || e != x.e {
			t.Errorf("New(%v): %v, %d, not %d", w, r, e, x.e)
		}
	}
}

// P9.1: the first messages wait, in order, each federate is in its Start, nothing was taken.
func TestNew(t *testing.T) {
	w := pair(20)
	w.Feds[0].Start, w.Feds[1].Start = 7, 3
	w.Feds[0].Init = []api.Out{{Class: 0, Delay: 9, Add: 4}, {Class: 0, Delay: 0, Add: 999}, {Class: 0, Delay: api.MaxTime}}
	w.Feds[1].Init = []api.Out{{Class: 0, Delay: 9}, {Class: 0, Delay: 1}}
	r := made(t, w)
	states(t, r, 7, 3)
	waits(t, r, message(0, 0, 1, 1, 0, 999), message(1, 1, 1, 0, 0, 0), message(9, 0, 0, 1, 0, 4), message(9, 1, 0, 0, 0, 0), message(api.MaxTime, 0, 2, 1, 0, 0))
	logged(t, r, 0)
	logged(t, r, 1)
}

// P9.1, P9.2: the first that a federate sends is numbered as if it had sent its Init, whether anybody hears them or not.
func TestNumbersGoOnBehindInit(t *testing.T) {
	w := pair(20)
	w.Parents = []int{-1, -1}
	w.Feds[1].Pubs = []int{0, 1}
	w.Feds[1].Init = []api.Out{{Class: 1, Delay: 1}, {Class: 1, Delay: 2}, {Class: 1, Delay: 3}}
	r := made(t, w)
	waits(t, r, message(3, 0, 0, 1, 0, 0))
	takes(t, r, message(3, 0, 0, 1, 0, 0), 0)
	waits(t, r, message(5, 1, 3, 0, 0, 1))
	takes(t, r, message(5, 1, 3, 0, 0, 1), 0)
	waits(t, r, message(7, 0, 1, 1, 0, 2))
}

// P9.2: what nobody hears takes its number, too; each of what is sent has one of its own.
func TestNumbersOfWhatNobodyHears(t *testing.T) {
	w := pair(20)
	w.Parents = []int{-1, -1}
	w.Feds[1].Pubs = []int{0, 1}
	w.Feds[1].Rules[0].Sends = []api.Out{{Class: 0, Delay: 4, Add: 1}, {Class: 1, Delay: 2}, {Class: 0, Delay: 2, Add: 5}}
	w.Feds[0].Rules = nil
	w.Feds[0].Init = []api.Out{{Class: 0, Delay: 3, Add: 998}, {Class: 0, Delay: 4, Add: 1}}
	r := made(t, w)
	takes(t, r, message(3, 0, 0, 1, 0, 998), 0)
	waits(t, r, message(4, 0, 1, 1, 0, 1), message(5, 1, 2, 0, 0, 3), message(7, 1, 0, 0, 0, 999))
	takes(t, r, message(4, 0, 1, 1, 0, 1), 0)
	waits(t, r, message(5, 1, 2, 0, 0, 3), message(6, 1, 5, 0, 0, 6), message(7, 1, 0, 0, 0, 999), message(8, 1, 3, 0, 0, 2))
}

// P9.2: of one time the least sender is first, of one sender the least number, of one key the least federate.
func TestOrder(t *testing.T) {
	listener := api.Fed{Look: 1, Pubs: []int{0}, Subs: []int{0}}
	w := api.World{Parents: []int{-1}, End: 10, Feds: slices.Repeat([]api.Fed{listener}, 4)}
	w.Feds[3].Init = []api.Out{{Delay: 2}, {Delay: 5}}
	w.Feds[1].Init = []api.Out{{Delay: 5}, {Delay: 5}}
	r := made(t, w)
	want := []api.Msg{
		message(2, 3, 0, 0, 0, 0), message(2, 3, 0, 1, 0, 0), message(2, 3, 0, 2, 0, 0),
		message(5, 1, 0, 0, 0, 0), message(5, 1, 0, 2, 0, 0), message(5, 1, 0, 3, 0, 0),
		message(5, 1, 1, 0, 0, 0), message(5, 1, 1, 2, 0, 0), message(5, 1, 1, 3, 0, 0),
		message(5, 3, 1, 0, 0, 0), message(5, 3, 1, 1, 0, 0), message(5, 3, 1, 2, 0, 0),
	}
	for i, m := range want {
		waits(t, r, want[i:]...)
		takes(t, r, m, 0)
	}
	waits(t, r)
	ended(t, r)
}

// P9.2: the state is that of the rule for the message's own class; without a rule it stays, and nothing is sent.
func TestStates(t *testing.T) {
	w := api.World{Parents: []int{-1, 0}, End: 50, Feds: []api.Fed{
		{Look: 1, Pubs: []int{0, 1}, Init: []api.Out{{Class: 1, Delay: 1}, {Class: 0, Delay: 2}, {Class: 1, Delay: 3}, {Class: 1, Delay: 4}}},
		{Look: 1, Start: 2, Subs: []int{0}, Rules: []api.Rule{{State: 2, Class: 0, Next: 5}, {State: 5, Class: 1, Next: 7}}},
	}}
	r := made(t, w)
	for i, x := range []struct{ class, state int }{{1, 2}, {0, 5}, {1, 7}, {1, 7}} {
		takes(t, r, message(i+1, 0, i, 1, x.class, 0), x.state)
		states(t, r, 0, x.state)
	}
	ended(t, r)
	logged(t, r, 0)
	logged(t, r, 1, api.Done{Msg: message(1, 0, 0, 1, 1, 0), State: 2}, api.Done{Msg: message(2, 0, 1, 1, 0, 0), State: 5},
		api.Done{Msg: message(3, 0, 2, 1, 1, 0), State: 7}, api.Done{Msg: message(4, 0, 3, 1, 1, 0), State: 7})
}

// P9.2: a message is taken just below End; at it or later it waits for ever.
func TestTheEnd(t *testing.T) {
	for end := range 12 {
		taken := 0
		for at := 3; at < end; at += 2 {
			taken++
		}
		r := made(t, pair(end))
		if n := r.Steps(100); n != taken {
			t.Errorf("End %d: %d, not %d", end, n, taken)
		}
		at, from := 3+2*taken, taken%2
		left := message(at, from, taken/2, 1-from, 0, taken)
		for range 3 {
			waits(t, r, left)
			ended(t, r)
		}
	}
}

// P9.2: the latest End there is, and times beyond all: they wait, and are never taken.
func TestTheLatestTimes(t *testing.T) {
	w := pair(api.MaxTime)
	w.Feds[0].Init = []api.Out{{Delay: api.MaxTime}, {Delay: api.MaxTime - 1}, {Delay: api.MaxTime - 2}}
	r := made(t, w)
	takes(t, r, message(api.MaxTime-2, 0, 2, 1, 0, 0), 0)
	takes(t, r, message(api.MaxTime-1, 0, 1, 1, 0, 0), 0)
	waits(t, r, message(api.MaxTime, 0, 0, 1, 0, 0), message(api.MaxTime, 1, 0, 0, 0, 1), message(api.Inf, 1, 1, 0, 0, 1))
	ended(t, r)
	states(t, r, 0, 0)
}

// P9.2: of nothing that waits, and of an End of 0, nothing and false.
func TestNothingWaits(t *testing.T) {
	w := pair(20)
	w.Feds[0].Init = nil
	r := made(t, w)
	ended(t, r)
	waits(t, r)
	alone := made(t, api.World{Parents: []int{-1}, End: 9, Feds: []api.Fed{{Look: 1, Pubs: []int{0}, Subs: []int{0}, Init: []api.Out{{}}}}})
	ended(t, alone)
	waits(t, alone)
	w = pair(0)
	w.Feds[0].Init[0].Delay = 0
	r = made(t, w)
	ended(t, r)
	waits(t, r, message(0, 0, 0, 1, 0, 0))
}

// P9.3: most steps at most, and no more than there are.
func TestSteps(t *testing.T) {
	r := made(t, pair(20))
	for _, x := range []struct{ most, n int }{
		{0, 0}, {-1, 0}, {math.MinInt, 0}, {1, 1}, {3, 3}, {0, 0}, {5, 5}, {1, 0}, {math.MaxInt, 0},
	} {
		if n := r.Steps(x.most); n != x.n {
			t.Errorf("Steps(%d): %d, not %d", x.most, n, x.n)
		}
	}
	if n := made(t, pair(20)).Steps(math.MaxInt); n != 9 {
		t.Errorf("all steps: %d", n)
	}
	if n := made(t, pair(20)).Steps(9); n != 9 {
		t.Errorf("just all steps: %d", n)
	}
}

// P9.3: of a federate that there is not: none, and -1.
func TestNoFederate(t *testing.T) {
	r := made(t, pair(20))
	r.Steps(100)
	for _, f := range []int{math.MinInt, -2, -1, 2, 3, api.MaxFeds, math.MaxInt} {
		if s := r.State(f); s != -1 {
			t.Errorf("State(%d): %d", f, s)
		}
		logged(t, r, f)
	}
	full := pair(20)
	full.Feds = slices.Repeat(full.Feds[1:], api.MaxFeds)
	r = made(t, full)
	states(t, r, make([]int, api.MaxFeds)...)
}

// P9.1 to P9.3: many federations, step by step, held against one that looks through all that waits.
func TestAgainstModel(t *testing.T) {
	taken := 0
	for i, w := range worlds(t) {
		r, m := made(t, w), newModel(w)
		for range most {
			waits(t, r, m.inOrder()...)
			states(t, r, m.states...)
			want, wantIs := m.next()
			d, is := r.Next()
			if d != want || is != wantIs {
				t.Fatalf("federation %d: %v, %v, not %v, %v", i, d, is, want, wantIs)
			}
			if !is {
				break
			}
			taken++
		}
		for f := range w.Feds {
			logged(t, r, f, m.logs[f]...)
		}
	}
	if taken < 2000 {
		t.Errorf("only %d were taken: the federations are too quiet", taken)
	}
}

// P9.3: Steps is as many of Next, whether they are taken in one call or in several.
func TestStepsAreNexts(t *testing.T) {
	next := numbers(93)
	for i, w := range worlds(t) {
		r, one := made(t, w), made(t, w)
		for range 12 {
			many, n := next(20), 0
			for range many {
				if _, is := one.Next(); is {
					n++
				}
			}
			if got := r.Steps(many); got != n {
				t.Fatalf("federation %d: Steps(%d): %d, not %d", i, many, got, n)
			}
			waits(t, r, one.Waiting()...)
			for f := range w.Feds {
				logged(t, r, f, one.Log(f)...)
				if r.State(f) != one.State(f) {
					t.Errorf("federation %d: State(%d): %d, not %d", i, f, r.State(f), one.State(f))
				}
			}
		}
	}
}

// P9.4: times never fall; a federate's messages come in the order of their keys, none twice.
func TestWhatFollows(t *testing.T) {
	for i, w := range worlds(t) {
		r := made(t, w)
		last := 0
		for range most {
			d, is := r.Next()
			if !is {
				break
			}
			if d.Msg.Key.T < last || d.Msg.Key.T >= w.End {
				t.Errorf("federation %d: %v behind %d", i, d, last)
			}
			last = d.Msg.Key.T
		}
		for f, fed := range w.Feds {
			l := r.Log(f)
			state := fed.Start
			for j, d := range l {
				if d.Msg.To != f || j > 0 && vtime.Cmp(l[j-1].Msg.Key, d.Msg.Key) >= 0 {
					t.Errorf("federation %d: Log(%d): %v at %d", i, f, d, j)
				}
				if state, _ = table.Step(fed.Rules, state, d.Msg.Class); state != d.State {
					t.Errorf("federation %d: Log(%d): %v at %d, not state %d", i, f, d, j, state)
				}
			}
			if r.State(f) != state {
				t.Errorf("federation %d: State(%d): %d, not %d", i, f, r.State(f), state)
			}
		}
	}
}

// P9.1 to P9.3: more wait than a queue of the limits could hold.
func TestManyWait(t *testing.T) {
	out := api.Out{Class: 0, Delay: 1}
	fed := api.Fed{Look: 1, Pubs: []int{0}, Subs: []int{0}, Rules: []api.Rule{{Sends: []api.Out{out, out, out}}}}
	w := api.World{Parents: []int{-1}, End: api.MaxTime, Feds: slices.Repeat([]api.Fed{fed}, api.MaxFeds)}
	w.Feds[0].Init = []api.Out{out}
	r := made(t, w)
	if n := r.Steps(500); n != 500 {
		t.Errorf("Steps: %d", n)
	}
	// Each step takes one message away, and has three sent to all seven others.
	if l := r.Waiting(); len(l) != 7+500*20 || !slices.IsSortedFunc(l, func(a, b api.Msg) int {
		if isAhead(a, b) {
			return -1
		}
		return 1
	}) {
		t.Errorf("%d wait", len(l))
	}
}

// P9.1, R3: w is neither changed nor kept, whatever is done with it or with the run.
func TestWorldIsNotKept(t *testing.T) {
	for _, w := range worlds(t) {
		given := copied(w)
		r, one := made(t, given), made(t, w)
		r.Steps(5)
		if !same(given, w) {
			t.Fatal("the world was changed")
		}
		spoilt(given)
		one.Steps(5)
		if n, want := r.Steps(most), one.Steps(most); n != want {
			t.Errorf("%d steps, not %d", n, want)
		}
		waits(t, r, one.Waiting()...)
		for f := range w.Feds {
			logged(t, r, f, one.Log(f)...)
		}
	}
}

// R3: what lies behind the lengths of lists is not changed.
func TestSpareRoom(t *testing.T) {
	w := pair(20)
	outs := []api.Out{{Class: 0, Delay: 2, Add: 1}, {Class: 9, Delay: 9, Add: 9}, {Class: 9, Delay: 9, Add: 9}}
	w.Feds[0].Rules[0].Sends, w.Feds[1].Rules[0].Sends = outs[:1], outs[:1]
	parents, feds, init := []int{-1, 9, 9}, slices.Clone(w.Feds), []api.Out{{Delay: 3}, {Class: 9}, {Class: 9}}
	w.Parents, w.Feds = parents[:1], append(feds, api.Fed{Kind: 9}, api.Fed{Kind: 9})[:2]
	w.Feds[0].Init = init[:1]
	r := made(t, w)
	if n := r.Steps(100); n != 9 {
		t.Errorf("%d steps", n)
	}
	spare := w.Feds[:4]
	if outs[1] != outs[2] || outs[1].Class != 9 || parents[1] != 9 || parents[2] != 9 || init[1].Class != 9 || init[2].Class != 9 || spare[2].Kind != 9 || spare[3].Kind != 9 {
		t.Error("spare room was changed")
	}
}

// R3: an answer is new memory, with its spare room.
func TestAnswersAreNew(t *testing.T) {
	r, one := made(t, pair(20)), made(t, pair(20))
	for range 10 {
		for _, list := range [][]api.Msg{r.Waiting(), r.Waiting()} {
			list = list[:cap(list)]
			for i := range list {
				list[i] = message(-9, 9, 9, 9, 9, 9)
			}
		}
		for f := range 2 {
			list := r.Log(f)
			list = list[:cap(list)]
			for i := range list {
				list[i] = api.Done{Msg: message(-9, 9, 9, 9, 9, 9), State: 9}
			}
		}
		d, is := r.Next()
		if want, wantIs := one.Next(); d != want || is != wantIs {
			t.Errorf("%v, %v, not %v, %v", d, is, want, wantIs)
		}
	}
	waits(t, r, one.Waiting()...)
	logged(t, r, 0, one.Log(0)...)
	logged(t, r, 1, one.Log(1)...)
}

// R3, R5: two runs of one federation have nothing in common; asking changes nothing.
func TestRunsAreApart(t *testing.T) {
	w := pair(20)
	r, other := made(t, w), made(t, w)
	r.Steps(100)
	waits(t, other, message(3, 0, 0, 1, 0, 0))
	logged(t, other, 1)
	for range 3 {
		other.State(0)
		other.Log(1)
		other.Waiting()
	}
	takes(t, other, message(3, 0, 0, 1, 0, 0), 0)
}
