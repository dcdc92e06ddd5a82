package cmb_test

import (
	"cmp"
	"math"
	"slices"
	"testing"

	"paceline/api"
	"paceline/cmb"
	"paceline/config"
	"paceline/table"
)

// three: federate 0 answers what it hears of class 1 by one that both others hear, by one that nobody hears, and by one that 2 alone hears; 1 is optimistic.
func three() api.World {
	return api.World{Parents: []int{-1, 0, -1, -1}, End: 50, Feds: []api.Fed{
		{Look: 2, Start: 3, Pubs: []int{1, 2, 3}, Subs: []int{0}, Init: []api.Out{{Class: 1, Delay: 4}, {Class: 2, Delay: 0}}, Rules: []api.Rule{
			{State: 3, Class: 1, Next: 5, Sends: []api.Out{{Class: 1, Delay: 2, Add: 1}, {Class: 2, Delay: 3, Add: 2}, {Class: 3, Delay: 7, Add: 999}}},
			{State: 5, Class: 1, Next: 3, Sends: []api.Out{{Class: 3, Delay: 2, Add: 4}}},
			{State: 5, Class: 0, Next: 7},
		}},
		{Kind: 1, Look: 1, Pubs: []int{1}, Subs: []int{1}},
		{Look: 1, Start: 6, Pubs: []int{1}, Subs: []int{0, 3}},
	}}
}

// alone is a federation of one federate, that hears what nobody sends.
func alone() api.World {
	return api.World{Parents: []int{-1}, End: 9, Feds: []api.Fed{{Look: 4, Start: 2, Pubs: []int{0}, Subs: []int{0}, Init: []api.Out{{}}}}}
}

// copied is a world that shares nothing with w.
func copied(w api.World) api.World {
	w.Parents = slices.Clone(w.Parents)
	w.Feds = slices.Clone(w.Feds)
	for f := range w.Feds {
		fed := &w.Feds[f]
		fed.Pubs, fed.Subs, fed.Init = slices.Clone(fed.Pubs), slices.Clone(fed.Subs), slices.Clone(fed.Init)
		fed.Rules = slices.Clone(fed.Rules)
		for r := range fed.Rules {
			fed.Rules[r].Sends = slices.Clone(fed.Rules[r].Sends)
		}
	}
	return w
}

// same tells whether all of both is the same.
func same(v, w api.World) bool {
	return v.End == w.End && slices.Equal(v.Parents, w.Parents) && slices.EqualFunc(v.Feds, w.Feds, func(a, b api.Fed) bool {
		return a.Kind == b.Kind && a.Look == b.Look && a.Start == b.Start &&
			slices.Equal(a.Pubs, b.Pubs) && slices.Equal(a.Subs, b.Subs) && slices.Equal(a.Init, b.Init) &&
			slices.EqualFunc(a.Rules, b.Rules, func(r, s api.Rule) bool {
				return r.State == s.State && r.Class == s.Class && r.Next == s.Next && slices.Equal(r.Sends, s.Sends)
			})
	})
}

// spoilt turns every number of w into another one.
func spoilt(w api.World) {
	for c := range w.Parents {
		w.Parents[c] = 77
	}
	for f := range w.Feds {
		fed := &w.Feds[f]
		for _, list := range [][]int{fed.Pubs, fed.Subs} {
			for i := range list {
				list[i] = 99
			}
		}
		for i := range fed.Rules {
			for j := range fed.Rules[i].Sends {
				fed.Rules[i].Sends[j] = api.Out{Class: 99, Delay: -5, Add: 5555}
			}
			fed.Rules[i] = api.Rule{State: 99, Class: 99, Next: 99}
		}
		for i := range fed.Init {
			fed.Init[i] = api.Out{Class: 99, Delay: 99, Add: 99}
		}
		*fed = api.Fed{}
	}
}

// message puts one together.
func message(at, from, seq, to, class, body int) api.Msg {
	return api.Msg{Key: api.Key{T: at, From: from, Seq: seq}, To: to, Class: class, Body: body}
}

// from1 is a message of class 1 from federate 1 to 0.
func from1(at, seq int) api.Msg { return message(at, 1, seq, 0, 1, 10) }

// plain is an item that is a message, bound one that is a bound.
func plain(m api.Msg) api.Item { return api.Item{Kind: api.Plain, Msg: m} }

func bound(t int) api.Item { return api.Item{Kind: api.Bound, Msg: api.Msg{Key: api.Key{T: t}}} }

// made is the node of w's federate f, which may be.
func made(t *testing.T, w api.World, f int) *cmb.Node {
	t.Helper()
	x, e := cmb.New(w, f)
	if x == nil || e != api.OK {
		t.Fatalf("New(%v, %d): %v, %d", w, f, x, e)
	}
	return x
}

// heard: x answers that error to what it hears.
func heard(t *testing.T, x *cmb.Node, from int, i api.Item, want api.Errno) {
	t.Helper()
	if e := x.Hear(from, i); e != want {
		t.Errorf("Hear(%d, %v): %d, not %d", from, i, e, want)
	}
}

// both lets federate 0 of three hear one bound of both others.
func both(t *testing.T, x *cmb.Node, at int) {
	t.Helper()
	heard(t, x, 1, bound(at), api.OK)
	heard(t, x, 2, bound(at), api.OK)
}

// safe: x tells whether a message is.
func safe(t *testing.T, x *cmb.Node, want bool) {
	t.Helper()
	if got := x.Safe(); got != want {
		t.Errorf("Safe: %v, not %v", got, want)
	}
}

// takes: x takes m, is led to state by it, and sends just that.
func takes(t *testing.T, x *cmb.Node, m api.Msg, state int, sent ...api.Msg) {
	t.Helper()
	safe(t, x, true)
	d, l, e := x.Step()
	if d != (api.Done{Msg: m, State: state}) || !slices.Equal(l, sent) || e != api.OK {
		t.Errorf("Step: %v, %v, %d, not %v, %d, %v", d, l, e, m, state, sent)
	}
	if s := x.State(); s != state {
		t.Errorf("State behind %v: %d, not %d", m, s, state)
	}
}

// idle: x takes nothing.
func idle(t *testing.T, x *cmb.Node) {
	t.Helper()
	safe(t, x, false)
	if d, l, e := x.Step(); d != (api.Done{}) || len(l) != 0 || e != api.ErrIdle {
		t.Errorf("Step: %v, %v, %d, with nothing to take", d, l, e)
	}
}

// tells: x tells that time, and whether it is new.
func tells(t *testing.T, x *cmb.Node, want int, wantNew bool) {
	t.Helper()
	if got, is := x.Tell(); got != want || is != wantNew {
		t.Errorf("Tell: %d, %v, not %d, %v", got, is, want, wantNew)
	}
}

// waits: just these messages do.
func waits(t *testing.T, x *cmb.Node, want ...api.Msg) {
	t.Helper()
	if l := x.Waiting(); !slices.Equal(l, want) {
		t.Errorf("Waiting: %v, not %v", l, want)
	}
}

// logged: just these were taken.
func logged(t *testing.T, x *cmb.Node, want ...api.Done) {
	t.Helper()
	if l := x.Log(); !slices.Equal(l, want) {
		t.Errorf("Log: %v, not %v", l, want)
	}
}

// stands: x is at that bound and in that state.
func stands(t *testing.T, x *cmb.Node, at, state int) {
	t.Helper()
	if x.Bound() != at || x.State() != state {
		t.Errorf("Bound %d, State %d, not %d, %d", x.Bound(), x.State(), at, state)
	}
}

var (
	noTimes = []int{math.MinInt, -api.Inf, -1, api.MaxTime + 1, api.Inf - 1, api.Inf + 1, math.MaxInt}
	// Numbers that are none of another federate of 0 in three.
	nobodies = []int{math.MinInt, -3, -1, 0, 3, api.MaxFeds, math.MaxInt}
	// Numbers that are kinds of no item which a node hears.
	noKinds = []int{math.MinInt, -1, api.Anti, 3, 4, 1 << 32, math.MaxInt}
)

// The chapter's example.
func TestExample(t *testing.T) {
	x := made(t, three(), 0)
	heard(t, x, 1, plain(from1(5, 0)), api.OK)
	both(t, x, 5)
	safe(t, x, false)
	both(t, x, 6)
	safe(t, x, true)
}

// P12.1: what config.Check does not take makes no node, and its error is told, whichever federate is asked for.
func TestNewOfWhatMayNotBe(t *testing.T) {
	for _, y := range []struct {
		e    api.Errno
		turn func(w *api.World)
	}{
		{api.ErrTree, func(w *api.World) { *w = api.World{} }},
		{api.ErrTree, func(w *api.World) { w.Parents[0], w.End = 0, -1 }},
		{api.ErrArg, func(w *api.World) { w.End = -1 }},
		{api.ErrArg, func(w *api.World) { w.End = api.MaxTime + 1 }},
		{api.ErrArg, func(w *api.World) { w.Feds = nil }},
		{api.ErrArg, func(w *api.World) { w.Feds = slices.Repeat(w.Feds, 3) }},
		{api.ErrArg, func(w *api.World) { w.Feds[2].Kind = 2 }},
		{api.ErrLook, func(w *api.World) { w.Feds[2].Look = 0 }},
		{api.ErrLook, func(w *api.World) { w.Feds[0].Rules[1].Sends[0].Delay = 1 }},
		{api.ErrRule, func(w *api.World) { w.Feds[2].Start = api.MaxState }},
		{api.ErrRule, func(w *api.World) { w.Feds[0].Rules[0].Next = -1 }},
		{api.ErrClass, func(w *api.World) { w.Feds[2].Subs[1] = 4 }},
		{api.ErrInit, func(w *api.World) { w.Feds[0].Init[0].Delay = -1 }},
	} {
		for _, f := range []int{math.MinInt, -1, 0, 1, 2, 3, math.MaxInt} {
			w := three()
			y.turn(&w)
			if x, e := cmb.New(w, f); x != nil || e != y.e {
				t.Errorf("New(%v, %d): %v, %d, not %d", w, f, x, e, y.e)
			}
		}
	}
}

// P12.1: no node of a federate that there is not, or that is optimistic.
func TestNewOfNoFederate(t *testing.T) {
	for _, f := range []int{math.MinInt, -api.MaxFeds, -1, 1, 3, 4, api.MaxFeds, 1 << 32, math.MaxInt} {
		if x, e := cmb.New(three(), f); x != nil || e != api.ErrArg {
			t.Errorf("New(%d): %v, %d", f, x, e)
		}
	}
	w := three()
	w.Feds[0].Kind, w.Feds[1].Kind = 1, 0
	if x, e := cmb.New(w, 0); x != nil || e != api.ErrArg {
		t.Errorf("New of one that is optimistic: %v, %d", x, e)
	}
	made(t, w, 1)
}

// P12.1: what a node is at first, of each federate that may be one.
func TestNew(t *testing.T) {
	for f, start := range map[int]int{0: 3, 2: 6} {
		x := made(t, three(), f)
		stands(t, x, 0, start)
		waits(t, x)
		logged(t, x)
		idle(t, x)
		for j := range 3 {
			want := api.OK
			if j == f {
				want = api.ErrArg
			}
			heard(t, x, j, bound(0), want)
		}
	}
}

// P12.1: there are clocks of as many as the federation has, whatever their kinds.
func TestNewHasAllClocks(t *testing.T) {
	for n := 1; n <= api.MaxFeds; n++ {
		for f := range n {
			w := api.World{Parents: []int{-1}, End: 9, Feds: slices.Repeat([]api.Fed{{Kind: 1, Look: 1}}, n)}
			w.Feds[f].Kind = 0
			x := made(t, w, f)
			for j := -1; j <= n; j++ {
				if j >= 0 && j < n && j != f {
					stands(t, x, 0, 0)
					heard(t, x, j, bound(7+j), api.OK)
				} else {
					heard(t, x, j, bound(7+j), api.ErrArg)
				}
			}
			least := api.Inf
			for j := range n {
				if j != f {
					least = min(least, 7+j)
				}
			}
			stands(t, x, least, 0)
		}
	}
}

// P12.1: who is alone hears of nobody, and has no bound.
func TestAlone(t *testing.T) {
	x := made(t, alone(), 0)
	stands(t, x, api.Inf, 2)
	for _, from := range []int{-1, 0, 1} {
		heard(t, x, from, plain(from1(5, 0)), api.ErrArg)
		heard(t, x, from, bound(5), api.ErrArg)
	}
	idle(t, x)
	tells(t, x, api.Inf, true)
	tells(t, x, api.Inf, false)
}

// P12.2: a bound moves its sender's clock alone; what is refused is told as the clocks tell it, and changes nothing.
func TestHearBound(t *testing.T) {
	x := made(t, three(), 0)
	heard(t, x, 1, bound(8), api.OK)
	stands(t, x, 0, 3)
	heard(t, x, 2, bound(5), api.OK)
	stands(t, x, 5, 3)
	refused := func() {
		t.Helper()
		for _, from := range nobodies {
			heard(t, x, from, bound(9), api.ErrArg)
		}
		for _, none := range noTimes {
			heard(t, x, 2, bound(none), api.ErrArg)
		}
		heard(t, x, 2, bound(4), api.ErrEarly)
		heard(t, x, 1, bound(7), api.ErrEarly)
	}
	refused()
	stands(t, x, 5, 3)
	heard(t, x, 2, bound(5), api.OK)
	heard(t, x, 2, bound(api.MaxTime), api.OK)
	stands(t, x, 8, 3)
	refused()
	stands(t, x, 8, 3)
	heard(t, x, 1, bound(api.Inf), api.OK)
	stands(t, x, api.MaxTime, 3)
	heard(t, x, 2, bound(api.Inf), api.OK)
	stands(t, x, api.Inf, 3)
	waits(t, x)
}

// P12.2: of a bound nothing but its T counts.
func TestHearBoundByItsTime(t *testing.T) {
	x := made(t, three(), 0)
	heard(t, x, 1, api.Item{Kind: api.Bound, Msg: message(6, 2, 9, 7, 15, -4), Colour: 1}, api.OK)
	heard(t, x, 2, api.Item{Kind: api.Bound, Msg: message(7, 0, -9, -7, 99, 4), Colour: -5}, api.OK)
	stands(t, x, 6, 3)
	waits(t, x)
}

// P12.2: a message waits, from its sender's clock on, and moves no clock.
func TestHearMessage(t *testing.T) {
	x := made(t, three(), 0)
	heard(t, x, 1, plain(from1(0, 0)), api.OK)
	both(t, x, 5)
	heard(t, x, 2, bound(8), api.OK)
	late := message(8, 2, 0, 0, 1, 3)
	for _, y := range []struct {
		from int
		m    api.Msg
		e    api.Errno
	}{
		{1, from1(4, 1), api.ErrEarly}, {1, from1(0, 0), api.ErrEarly}, {1, from1(-1, 1), api.ErrEarly}, {1, from1(math.MinInt, 1), api.ErrEarly},
		{1, from1(5, 1), api.OK}, {1, from1(5, 1), api.ErrTwice}, {1, from1(5, 2), api.OK},
		{2, message(7, 2, 0, 0, 1, 3), api.ErrEarly}, {2, late, api.OK}, {2, late, api.ErrTwice}, {1, late, api.ErrTwice},
		{1, from1(api.Inf, 3), api.OK}, {1, from1(api.MaxTime+1, 4), api.OK}, {1, from1(math.MaxInt, 5), api.OK},
	} {
		heard(t, x, y.from, plain(y.m), y.e)
	}
	waits(t, x, from1(0, 0), from1(5, 1), from1(5, 2), late, from1(api.MaxTime+1, 4), from1(api.Inf, 3), from1(math.MaxInt, 5))
	stands(t, x, 5, 3)
	logged(t, x)
}

// P12.2: whom a message comes from is told by from, not by its key; its other parts count for nothing, nor does the colour.
func TestHearMessageByItsSender(t *testing.T) {
	x := made(t, three(), 0)
	heard(t, x, 1, bound(6), api.OK)
	odd := api.Item{Msg: message(5, 1, 7, -9, 99, math.MinInt), Colour: 77}
	heard(t, x, 1, odd, api.ErrEarly)
	heard(t, x, 2, odd, api.OK)
	own := api.Item{Msg: message(6, 0, -7, 4, -1, math.MaxInt), Colour: -1}
	heard(t, x, 0, own, api.ErrArg)
	heard(t, x, 1, own, api.OK)
	waits(t, x, odd.Msg, own.Msg)
	both(t, x, 9)
	takes(t, x, odd.Msg, 3)
	takes(t, x, own.Msg, 3)
}

// P12.2: who has no clock sends nothing, whatever else is wrong.
func TestHearMessageOfNobody(t *testing.T) {
	x := made(t, three(), 0)
	heard(t, x, 1, plain(from1(9, 0)), api.OK)
	both(t, x, 4)
	for _, from := range nobodies {
		for _, m := range []api.Msg{from1(6, 1), from1(3, 1), from1(9, 0), from1(-1, 0)} {
			heard(t, x, from, plain(m), api.ErrArg)
		}
	}
	waits(t, x, from1(9, 0))
	stands(t, x, 4, 3)
}

// P12.2: an item of any other kind is out of order, whoever sends it and whatever it is.
func TestHearOtherKinds(t *testing.T) {
	x := made(t, three(), 0)
	heard(t, x, 1, plain(from1(9, 0)), api.OK)
	both(t, x, 4)
	for _, kind := range noKinds {
		for _, from := range append([]int{1, 2}, nobodies...) {
			for _, at := range []int{-1, 3, 4, 9, api.Inf} {
				heard(t, x, from, api.Item{Kind: kind, Msg: from1(at, 0)}, api.ErrOrder)
			}
		}
	}
	waits(t, x, from1(9, 0))
	stands(t, x, 4, 3)
}

// P12.2: there is room for MaxQueue; what is early or there already is told ahead of it; who takes one has room again.
func TestHearWithoutRoom(t *testing.T) {
	x := made(t, three(), 0)
	both(t, x, 1)
	var all []api.Msg
	for seq := range api.MaxQueue {
		all = append(all, from1(7, seq))
		heard(t, x, 1, plain(all[seq]), api.OK)
	}
	more := message(8, 2, 0, 0, 2, 0)
	heard(t, x, 2, plain(more), api.ErrFull)
	heard(t, x, 1, plain(from1(7, 0)), api.ErrTwice)
	heard(t, x, 1, plain(from1(0, 0)), api.ErrEarly)
	heard(t, x, 0, plain(more), api.ErrArg)
	waits(t, x, all...)
	both(t, x, 8)
	heard(t, x, 2, plain(more), api.ErrFull)
	if _, _, e := x.Step(); e != api.OK {
		t.Errorf("Step: %d", e)
	}
	heard(t, x, 2, plain(more), api.OK)
	heard(t, x, 2, plain(message(9, 2, 1, 0, 2, 0)), api.ErrFull)
	waits(t, x, append(all[1:], more)...)
}

// P12.3: safe is what stands below the bound; at it another message of its time may still come ahead.
func TestSafeBelowTheBound(t *testing.T) {
	x := made(t, three(), 0)
	idle(t, x)
	both(t, x, 10)
	idle(t, x)
	for _, y := range []struct {
		at int
		is bool
	}{{12, false}, {11, false}, {10, false}} {
		heard(t, x, 1, plain(from1(y.at, 0)), api.OK)
		safe(t, x, y.is)
	}
	heard(t, x, 1, bound(20), api.OK)
	idle(t, x)
	heard(t, x, 2, plain(message(10, 0, 5, 0, 2, 0)), api.OK)
	idle(t, x)
	heard(t, x, 2, bound(11), api.OK)
	takes(t, x, message(10, 0, 5, 0, 2, 0), 3)
	safe(t, x, true)
	heard(t, x, 2, plain(message(11, 2, 0, 0, 1, 0)), api.OK)
	safe(t, x, true)
	if d, _, e := x.Step(); d.Msg != from1(10, 0) || e != api.OK {
		t.Errorf("Step: %v, %d", d, e)
	}
	idle(t, x)
}

// P12.3: what stands at End or behind it is never safe.
func TestSafeBelowTheEnd(t *testing.T) {
	for _, y := range []struct {
		end, at int
		is      bool
	}{
		{0, 0, false}, {1, 0, true}, {1, 1, false}, {50, 49, true}, {50, 50, false}, {50, 51, false},
		{api.MaxTime, api.MaxTime - 1, true}, {api.MaxTime, api.MaxTime, false}, {api.MaxTime, api.MaxTime + 1, false}, {api.MaxTime, api.Inf, false}, {api.MaxTime, math.MaxInt, false},
	} {
		w := three()
		w.End = y.end
		x := made(t, w, 0)
		heard(t, x, 1, plain(from1(y.at, 0)), api.OK)
		safe(t, x, false)
		both(t, x, api.Inf)
		safe(t, x, y.is)
		if !y.is {
			idle(t, x)
			waits(t, x, from1(y.at, 0))
			logged(t, x)
		}
	}
}

// P12.3: an end that is below the bound holds what the bound lets go, and one above it does not.
func TestSafeBelowBoth(t *testing.T) {
	for end := range 8 {
		for at := range 8 {
			for b := range 8 {
				w := three()
				w.End = end
				x := made(t, w, 0)
				heard(t, x, 2, plain(message(at, 2, 0, 0, 2, 0)), api.OK)
				both(t, x, b)
				if want := at < end && at < b; x.Safe() != want {
					t.Errorf("End %d, a message of %d, bound %d: %v", end, at, b, !want)
				}
			}
		}
	}
}

// P12.3: what is taken is the first by its key; the state is the rule's; what is sent goes to whom it goes, behind the first messages by number, those that nobody hears counted too.
func TestStep(t *testing.T) {
	x := made(t, three(), 0)
	second := message(5, 2, 0, 0, 1, 998)
	for _, m := range []api.Msg{from1(7, 1), second, from1(5, 0)} {
		heard(t, x, m.Key.From, plain(m), api.OK)
	}
	kind0 := message(8, 2, 1, 0, 0, 1)
	heard(t, x, 2, plain(kind0), api.OK)
	both(t, x, 9)
	takes(t, x, from1(5, 0), 5, message(7, 0, 2, 1, 1, 11), message(7, 0, 2, 2, 1, 11), message(12, 0, 4, 2, 3, 9))
	waits(t, x, second, from1(7, 1), kind0)
	takes(t, x, second, 3, message(7, 0, 5, 2, 3, 2))
	takes(t, x, from1(7, 1), 5, message(9, 0, 6, 1, 1, 11), message(9, 0, 6, 2, 1, 11), message(14, 0, 8, 2, 3, 9))
	takes(t, x, kind0, 7)
	idle(t, x)
	waits(t, x)
	stands(t, x, 9, 7)
	logged(t, x, api.Done{Msg: from1(5, 0), State: 5}, api.Done{Msg: second, State: 3}, api.Done{Msg: from1(7, 1), State: 5}, api.Done{Msg: kind0, State: 7})
	// In state 7 there is no rule: it stays, and nothing is sent.
	heard(t, x, 1, plain(from1(9, 2)), api.OK)
	both(t, x, 10)
	takes(t, x, from1(9, 2), 7)
}

// P12.3: sends end at MaxTime, and bodies go round.
func TestStepAtTheEdges(t *testing.T) {
	w := three()
	w.End = api.MaxTime
	w.Feds[0].Rules = []api.Rule{{State: 3, Class: 1, Next: 3, Sends: []api.Out{{Class: 3, Delay: 2, Add: 999}, {Class: 3, Delay: 1 << 20}}}}
	x := made(t, w, 0)
	for seq, y := range []struct{ at, body int }{{api.MaxTime - 2, 1}, {api.MaxTime - 1, -1}} {
		heard(t, x, 1, plain(message(y.at, 1, seq, 0, 1, y.body)), api.OK)
	}
	both(t, x, api.Inf)
	takes(t, x, message(api.MaxTime-2, 1, 0, 0, 1, 1), 3, message(api.MaxTime, 0, 2, 2, 3, 0), message(api.Inf, 0, 3, 2, 3, 1))
	takes(t, x, message(api.MaxTime-1, 1, 1, 0, 1, -1), 3, message(api.Inf, 0, 4, 2, 3, 998), message(api.Inf, 0, 5, 2, 3, 999))
	idle(t, x)
}

// P12.3, with R2: who is idle stays as it is.
func TestIdleChangesNothing(t *testing.T) {
	x := made(t, three(), 0)
	heard(t, x, 1, plain(from1(5, 0)), api.OK)
	for range 5 {
		idle(t, x)
		waits(t, x, from1(5, 0))
		stands(t, x, 0, 3)
		logged(t, x)
	}
	both(t, x, 6)
	takes(t, x, from1(5, 0), 5, message(7, 0, 2, 1, 1, 11), message(7, 0, 2, 2, 1, 11), message(12, 0, 4, 2, 3, 9))
}

// P12.4: the promise hangs on the first message that waits, or on the bound, whichever is less, and on the lookahead.
func TestTell(t *testing.T) {
	x := made(t, three(), 0)
	tells(t, x, 2, true)
	tells(t, x, 2, false)
	heard(t, x, 1, plain(from1(9, 0)), api.OK)
	tells(t, x, 2, false)
	both(t, x, 6)
	tells(t, x, 8, true)
	both(t, x, 20)
	tells(t, x, 11, true)
	tells(t, x, 11, false)
	stands(t, x, 20, 3)
	takes(t, x, from1(9, 0), 5, message(11, 0, 2, 1, 1, 11), message(11, 0, 2, 2, 1, 11), message(16, 0, 4, 2, 3, 9))
	tells(t, x, 22, true)
	heard(t, x, 1, plain(from1(20, 1)), api.OK)
	tells(t, x, 22, false)
	heard(t, x, 1, bound(30), api.OK)
	tells(t, x, 22, false)
	heard(t, x, 2, bound(30), api.OK)
	tells(t, x, 22, false)
	waits(t, x, from1(20, 1))
}

// P12.4: what waits at the end or behind it counts as any other; what is no time counts as Inf.
func TestTellBehindTheEnd(t *testing.T) {
	x := made(t, three(), 0)
	for _, m := range []api.Msg{from1(math.MaxInt, 0), from1(api.MaxTime+1, 1)} {
		heard(t, x, 1, plain(m), api.OK)
	}
	both(t, x, 40)
	tells(t, x, 42, true)
	heard(t, x, 1, plain(from1(60, 2)), api.OK)
	both(t, x, 70)
	tells(t, x, 62, true)
	both(t, x, api.Inf)
	idle(t, x)
	tells(t, x, 62, false)
	y := made(t, three(), 0)
	heard(t, y, 1, plain(from1(api.MaxTime+1, 1)), api.OK)
	both(t, y, api.MaxTime-2)
	tells(t, y, api.MaxTime, true)
	both(t, y, api.MaxTime-1)
	tells(t, y, api.Inf, true)
	both(t, y, api.Inf)
	tells(t, y, api.Inf, false)
}

// P12.4: the lookahead is the federate's own.
func TestTellByOnesOwnLookahead(t *testing.T) {
	w := three()
	w.Feds[0].Look, w.Feds[1].Look, w.Feds[2].Look = 1, 1000, 1<<20
	for f, look := range map[int]int{0: 1, 2: 1 << 20} {
		x := made(t, w, f)
		tells(t, x, look, true)
		heard(t, x, 1, bound(5), api.OK)
		heard(t, x, 2-f, bound(4), api.OK)
		tells(t, x, 4+look, true)
	}
}

// P12.1, R3: w is neither changed nor kept, what lies behind its lists' lengths neither.
func TestWorldIsNotKept(t *testing.T) {
	given := three()
	given.Feds = append(given.Feds, api.Fed{Kind: 9})[:3]
	given.Feds[0].Rules = append(given.Feds[0].Rules, api.Rule{State: 9})[:3]
	given.Feds[0].Rules[1].Sends = append(given.Feds[0].Rules[1].Sends, api.Out{Class: 9})[:1]
	x := made(t, given, 0)
	heard(t, x, 1, plain(from1(5, 0)), api.OK)
	heard(t, x, 1, plain(from1(6, 1)), api.OK)
	both(t, x, 6)
	first := []api.Msg{message(7, 0, 2, 1, 1, 11), message(7, 0, 2, 2, 1, 11), message(12, 0, 4, 2, 3, 9)}
	takes(t, x, from1(5, 0), 5, first...)
	fed := given.Feds[0]
	if !same(given, three()) || given.Feds[:4][3].Kind != 9 || fed.Rules[:4][3].State != 9 || fed.Rules[1].Sends[:2][1].Class != 9 {
		t.Errorf("the world was changed: %v", given)
	}
	spoilt(given)
	both(t, x, 10)
	takes(t, x, from1(6, 1), 3, message(8, 0, 5, 2, 3, 14))
	tells(t, x, 12, true)
	heard(t, x, 1, plain(from1(49, 2)), api.OK)
	heard(t, x, 1, plain(from1(50, 3)), api.OK)
	both(t, x, 60)
	takes(t, x, from1(49, 2), 5, message(51, 0, 6, 1, 1, 11), message(51, 0, 6, 2, 1, 11), message(56, 0, 8, 2, 3, 9))
	idle(t, x)
}

// R3: what a call answered is the caller's own, with its spare room.
func TestAnswersAreNewMemory(t *testing.T) {
	x := made(t, three(), 0)
	for seq := range 5 {
		heard(t, x, 1, plain(from1(5+seq, seq)), api.OK)
	}
	both(t, x, 8)
	var sent [][]api.Msg
	for range 3 {
		_, l, _ := x.Step()
		sent = append(sent, slices.Clone(l))
		l = l[:cap(l)]
		for i := range l {
			l[i] = from1(-77, 0)
		}
	}
	if len(sent[0]) != 3 || len(sent[1]) != 1 || !slices.Equal(sent[1], []api.Msg{message(8, 0, 5, 2, 3, 14)}) || sent[2][0] != message(9, 0, 6, 1, 1, 11) {
		t.Errorf("sent: %v", sent)
	}
	log, again, waiting, still := x.Log(), x.Log(), x.Waiting(), x.Waiting()
	want, wantWaiting := slices.Clone(log), slices.Clone(waiting)
	log, waiting = log[:cap(log)], waiting[:cap(waiting)]
	for i := range log {
		log[i] = api.Done{State: -77}
	}
	for i := range waiting {
		waiting[i] = from1(-77, 0)
	}
	logged(t, x, want...)
	waits(t, x, wantWaiting...)
	both(t, x, 20)
	x.Step()
	if !slices.Equal(again, want) || !slices.Equal(still, wantWaiting) || len(want) != 3 || len(wantWaiting) != 2 {
		t.Errorf("an answer changed: %v, %v", again, still)
	}
	if l := x.Log(); len(l) != 4 || !slices.Equal(l[:3], want) {
		t.Errorf("Log: %v", l)
	}
}

// R3: two nodes have nothing in common, not even of one federate of one federation.
func TestNodesAreTheirOwn(t *testing.T) {
	w := three()
	x, y, z := made(t, w, 0), made(t, w, 0), made(t, w, 2)
	heard(t, x, 1, plain(from1(5, 0)), api.OK)
	both(t, x, 9)
	tells(t, x, 7, true)
	x.Step()
	for node, start := range map[*cmb.Node]int{y: 3, z: 6} {
		stands(t, node, 0, start)
		waits(t, node)
		logged(t, node)
		idle(t, node)
	}
	tells(t, y, 2, true)
	tells(t, z, 1, true)
	heard(t, y, 1, plain(from1(5, 0)), api.OK)
	both(t, y, 9)
	takes(t, y, from1(5, 0), 5, message(7, 0, 2, 1, 1, 11), message(7, 0, 2, 2, 1, 11), message(12, 0, 4, 2, 3, 9))
}

// model is a node by another way than the program's: lists that are sorted, and all of the federation.
type model struct {
	w                 api.World
	self              int
	clocks            [api.MaxFeds]int
	state, sent, told int
	waiting           []api.Msg
	log               []api.Done
}

func modelOf(w api.World, f int) *model {
	m := &model{w: copied(w), self: f, state: w.Feds[f].Start, sent: len(w.Feds[f].Init)}
	for j := range m.clocks {
		if j >= len(w.Feds) || j == f {
			m.clocks[j] = -1
		}
	}
	return m
}

func (m *model) hear(from int, i api.Item) api.Errno {
	at := i.Msg.Key.T
	if i.Kind != api.Plain && i.Kind != api.Bound {
		return api.ErrOrder
	}
	if from < 0 || from >= len(m.clocks) || m.clocks[from] < 0 {
		return api.ErrArg
	}
	if i.Kind == api.Bound && at != api.Inf && (at < 0 || at > api.MaxTime) {
		return api.ErrArg
	}
	if at < m.clocks[from] {
		return api.ErrEarly
	}
	if i.Kind == api.Bound {
		m.clocks[from] = at
		return api.OK
	}
	for _, x := range m.waiting {
		if x.Key == i.Msg.Key {
			return api.ErrTwice
		}
	}
	if len(m.waiting) == api.MaxQueue {
		return api.ErrFull
	}
	m.waiting = append(m.waiting, i.Msg)
	slices.SortFunc(m.waiting, func(a, b api.Msg) int {
		return cmp.Or(cmp.Compare(a.Key.T, b.Key.T), cmp.Compare(a.Key.From, b.Key.From), cmp.Compare(a.Key.Seq, b.Key.Seq))
	})
	return api.OK
}

func (m *model) bound() int {
	least := api.Inf
	for _, t := range m.clocks {
		if t >= 0 {
			least = min(least, t)
		}
	}
	return least
}

func (m *model) safe() bool {
	return slices.ContainsFunc(m.waiting, func(x api.Msg) bool { return x.Key.T < m.w.End && x.Key.T < m.bound() })
}

func (m *model) step() (api.Done, []api.Msg, api.Errno) {
	if !m.safe() {
		return api.Done{}, nil, api.ErrIdle
	}
	x := m.waiting[0]
	m.waiting = m.waiting[1:]
	state, sends := table.Step(m.w.Feds[m.self].Rules, m.state, x.Class)
	l := config.Spread(m.w, m.self, m.sent, x.Key.T, x.Body, sends)
	m.state, m.sent = state, m.sent+len(sends)
	m.log = append(m.log, api.Done{Msg: x, State: state})
	return m.log[len(m.log)-1], l, api.OK
}

func (m *model) tell() (int, bool) {
	first := m.bound()
	if len(m.waiting) > 0 {
		first = min(first, m.waiting[0].Key.T)
	}
	promise := api.Inf
	if first+m.w.Feds[m.self].Look <= api.MaxTime {
		promise = first + m.w.Feds[m.self].Look
	}
	is := promise > m.told
	m.told = max(m.told, promise)
	return m.told, is
}

// same: all that x tells without a change is as of the model.
func (m *model) same(t *testing.T, x *cmb.Node) {
	t.Helper()
	stands(t, x, m.bound(), m.state)
	safe(t, x, m.safe())
	waits(t, x, m.waiting...)
	logged(t, x, m.log...)
}

// numbers tells numbers below n, the same ones for the same seed.
func numbers(seed uint64) func(n int) int {
	return func(n int) int {
		seed = seed*6364136223846793005 + 1442695040888963407
		return int((seed >> 33) % uint64(n))
	}
}

// drawn is an item by chance: times rise with the steps, and only now and then one is far off.
func drawn(next func(int) int, step, classes int) (int, api.Item) {
	at := step/8 + next(30)
	if next(200) == 0 {
		far := []int{math.MinInt, -1, 0, api.MaxTime, api.MaxTime + 1, math.MaxInt}
		at = far[next(len(far))]
	}
	kind := []int{api.Plain, api.Plain, api.Plain, api.Bound, api.Bound}[next(5)]
	if next(30) == 0 {
		kind = noKinds[next(len(noKinds))]
	}
	if kind == api.Bound {
		at = min(at, step/8)
	}
	from := next(api.MaxFeds+2) - 1
	m := message(at, next(api.MaxFeds), next(4), next(9), next(classes+1), next(1200)-100)
	return from, api.Item{Kind: kind, Msg: m, Colour: next(2)}
}

// P12.1 to P12.4: whatever is called, in whatever order, it is as of the model.
func TestLongRuns(t *testing.T) {
	taken := 0
	for run, w := range worlds(t, 4000) {
		f := run % len(w.Feds)
		x, m := made(t, w, f), modelOf(w, f)
		next := numbers(uint64(run))
		for step := range 250 {
			switch next(6) {
			case 0:
				d, l, e := x.Step()
				if want, sent, wantE := m.step(); d != want || e != wantE || !slices.Equal(l, sent) {
					t.Errorf("Step: %v, %v, %d, not %v, %v, %d", d, l, e, want, sent, wantE)
				}
			case 1:
				want, is := m.tell()
				tells(t, x, want, is)
			default:
				from, i := drawn(next, step, len(w.Parents))
				heard(t, x, from, i, m.hear(from, i))
			}
			m.same(t, x)
			if t.Failed() {
				t.Fatalf("federate %d of federation %d, at step %d", f, run, step)
			}
		}
		taken += len(x.Log())
	}
	if taken < 500 {
		t.Errorf("only %d were taken: the runs are too quiet", taken)
	}
}
