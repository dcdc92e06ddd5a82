package warp_test

import (
	"math"
	"slices"
	"testing"

	"paceline/api"
	"paceline/warp"
)

// four: federate 0 answers what it hears of class 1 by one that 1 and 2 hear, by one that nobody hears, and by one that 2 and 3 hear; 2 alone is conservative.
func four() api.World {
	return api.World{Parents: []int{-1, 0, -1, -1}, End: 500, Feds: []api.Fed{
		{Kind: 1, Look: 2, Start: 3, Pubs: []int{1, 2, 3}, Subs: []int{0}, Init: []api.Out{{Class: 1, Delay: 4}, {Class: 2, Delay: 0}}, Rules: []api.Rule{
			{State: 3, Class: 1, Next: 5, Sends: []api.Out{{Class: 1, Delay: 2, Add: 1}, {Class: 2, Delay: 3, Add: 2}, {Class: 3, Delay: 7, Add: 999}}},
			{State: 5, Class: 1, Next: 3, Sends: []api.Out{{Class: 3, Delay: 2, Add: 4}}},
			{State: 5, Class: 0, Next: 7},
		}},
		{Kind: 1, Look: 1, Pubs: []int{1}, Subs: []int{1}},
		{Look: 1, Start: 6, Pubs: []int{1}, Subs: []int{0, 3}},
		{Kind: 1, Look: 9, Start: 4, Pubs: []int{1}, Subs: []int{3}},
	}}
}

// quiet is a federation of a federate that sends nothing, an optimistic and a conservative one.
func quiet() api.World {
	return api.World{Parents: []int{-1}, End: api.MaxTime, Feds: []api.Fed{{Kind: 1, Look: 3, Subs: []int{0}}, {Kind: 1, Look: 1, Pubs: []int{0}}, {Look: 1, Pubs: []int{0}}}}
}

// message puts one together.
func message(at, from, seq, to, class, body int) api.Msg {
	return api.Msg{Key: api.Key{T: at, From: from, Seq: seq}, To: to, Class: class, Body: body}
}

// from1 is a message of class 1 from federate 1 to 0.
func from1(at, seq int) api.Msg { return message(at, 1, seq, 0, 1, 10) }

// wordy is what federate 0 of four sends when it takes such a message at that time in the state 3, the first one as number seq: what goes out, and what is held.
func wordy(at, seq int) (out, held []api.Msg) {
	return []api.Msg{message(at+2, 0, seq, 1, 1, 11), message(at+7, 0, seq+2, 3, 3, 9)},
		[]api.Msg{message(at+2, 0, seq, 2, 1, 11), message(at+7, 0, seq+2, 2, 3, 9)}
}

// brief is likewise, in the state 5.
func brief(at, seq int) (out, held []api.Msg) {
	return []api.Msg{message(at+2, 0, seq, 3, 3, 14)}, []api.Msg{message(at+2, 0, seq, 2, 3, 14)}
}

// first tells the first of both, second the second one.
func first(out, held []api.Msg) []api.Msg { return out }

func second(out, held []api.Msg) []api.Msg { return held }

// plain is an item that is a message, anti one that takes it back, bound one that is a bound.
func plain(m api.Msg) api.Item { return api.Item{Kind: api.Plain, Msg: m} }

func anti(m api.Msg) api.Item { return api.Item{Kind: api.Anti, Msg: m} }

func bound(t int) api.Item { return api.Item{Kind: api.Bound, Msg: api.Msg{Key: api.Key{T: t}}} }

// items are messages as items, made one by one.
func items(as func(api.Msg) api.Item, lists ...[]api.Msg) []api.Item {
	var all []api.Item
	for _, m := range slices.Concat(lists...) {
		all = append(all, as(m))
	}
	return all
}

// made is the node of w's federate f, which may be.
func made(t *testing.T, w api.World, f int) *warp.Node {
	t.Helper()
	x, e := warp.New(w, f)
	if x == nil || e != api.OK {
		t.Fatalf("New(%v, %d): %v, %d", w, f, x, e)
	}
	return x
}

// heard: x takes in what it hears, and sends just that.
func heard(t *testing.T, x *warp.Node, from int, i api.Item, sent ...api.Item) {
	t.Helper()
	if l, e := x.Hear(from, i); e != api.OK || !slices.Equal(l, sent) {
		t.Errorf("Hear(%d, %v): %v, %d, not %v", from, i, l, e, sent)
	}
}

// told is all that a node tells without a change.
type told struct {
	state, ahead, floor, local, promise int
	waiting                             []api.Msg
	log                                 []api.Done
}

func tells(x *warp.Node) told {
	return told{x.State(), x.Ahead(), x.Floor(), x.Local(), x.Promise(), x.Waiting(), x.Log()}
}

func (a told) same(b told) bool {
	return a.state == b.state && a.ahead == b.ahead && a.floor == b.floor && a.local == b.local && a.promise == b.promise &&
		slices.Equal(a.waiting, b.waiting) && slices.Equal(a.log, b.log)
}

// refused: x answers that error to what it hears, sends nothing, and stays as it was.
func refused(t *testing.T, x *warp.Node, from int, i api.Item, want api.Errno) {
	t.Helper()
	was := tells(x)
	if l, e := x.Hear(from, i); e != want || len(l) != 0 {
		t.Errorf("Hear(%d, %v): %v, %d, not %d", from, i, l, e, want)
	}
	if is := tells(x); !is.same(was) {
		t.Errorf("Hear(%d, %v) was refused: %v, and was %v", from, i, is, was)
	}
}

// takes: x takes m, is led to state by it, and sends just these messages.
func takes(t *testing.T, x *warp.Node, m api.Msg, state int, sent ...api.Msg) {
	t.Helper()
	d, l, e := x.Step()
	if d != (api.Done{Msg: m, State: state}) || !slices.Equal(l, items(plain, sent)) || e != api.OK {
		t.Errorf("Step: %v, %v, %d, not %v, %d, %v", d, l, e, m, state, sent)
	}
	if s := x.State(); s != state {
		t.Errorf("State behind %v: %d, not %d", m, s, state)
	}
}

// stays: x takes nothing, for that reason, and stays as it was.
func stays(t *testing.T, x *warp.Node, want api.Errno) {
	t.Helper()
	was := tells(x)
	if d, l, e := x.Step(); d != (api.Done{}) || len(l) != 0 || e != want {
		t.Errorf("Step: %v, %v, %d, not %d", d, l, e, want)
	}
	if is := tells(x); !is.same(was) {
		t.Errorf("Step was refused: %v, and was %v", is, was)
	}
}

// settles: just these are settled below at, and just these messages go out.
func settles(t *testing.T, x *warp.Node, at int, settled []api.Done, out ...api.Msg) {
	t.Helper()
	log := append(x.Log(), settled...)
	d, l, e := x.Commit(at)
	if !slices.Equal(d, settled) || !slices.Equal(l, out) || e != api.OK {
		t.Errorf("Commit(%d): %v, %v, %d, not %v, %v", at, d, l, e, settled, out)
	}
	if got := x.Log(); !slices.Equal(got, log) || x.Floor() != at {
		t.Errorf("behind Commit(%d): Floor %d, Log %v, not %v", at, x.Floor(), got, log)
	}
}

// unsettled: x does not settle that, for that reason, and stays as it was.
func unsettled(t *testing.T, x *warp.Node, at int, want api.Errno) {
	t.Helper()
	was := tells(x)
	if d, l, e := x.Commit(at); len(d) != 0 || len(l) != 0 || e != want {
		t.Errorf("Commit(%d): %v, %v, %d, not %d", at, d, l, e, want)
	}
	if is := tells(x); !is.same(was) {
		t.Errorf("Commit(%d) was refused: %v, and was %v", at, is, was)
	}
}

// waits: just these messages do.
func waits(t *testing.T, x *warp.Node, want ...api.Msg) {
	t.Helper()
	if l := x.Waiting(); !slices.Equal(l, want) {
		t.Errorf("Waiting: %v, not %v", l, want)
	}
}

// stands: x is in that state, with so many entries.
func stands(t *testing.T, x *warp.Node, state, ahead int) {
	t.Helper()
	if x.State() != state || x.Ahead() != ahead {
		t.Errorf("State %d, Ahead %d, not %d, %d", x.State(), x.Ahead(), state, ahead)
	}
}

// local: x tells that time.
func local(t *testing.T, x *warp.Node, want int) {
	t.Helper()
	if got := x.Local(); got != want {
		t.Errorf("Local: %d, not %d", got, want)
	}
}

// filled is the node of federate 0 of w, that has taken so many, at 10, 11 and so on, and for which then so many wait, from 200 on.
func filled(t *testing.T, w api.World, taken, waiting int) *warp.Node {
	t.Helper()
	x := made(t, w, 0)
	for i := range taken {
		heard(t, x, 1, plain(from1(10+i, i)))
		if _, _, e := x.Step(); e != api.OK {
			t.Fatalf("Step %d: %d", i, e)
		}
	}
	for i := range waiting {
		heard(t, x, 1, plain(from1(200+i, 500+i)))
	}
	return x
}

var (
	noTimes = []int{math.MinInt, -api.Inf, -1, api.MaxTime + 1, api.Inf - 1, api.Inf + 1, math.MaxInt}
	// Numbers that are none of another federate of 0 in four.
	nobodies = []int{math.MinInt, -4, -1, 0, 4, api.MaxFeds, 1 << 32, math.MaxInt}
	// Numbers that are kinds of no item.
	noKinds = []int{math.MinInt, -1, 3, 4, 1 << 32, math.MaxInt}
)

// The chapter's example.
func TestExample(t *testing.T) {
	x := made(t, four(), 0)
	five, seven, nine := from1(5, 0), from1(7, 2), from1(9, 1)
	heard(t, x, 1, plain(five))
	heard(t, x, 1, plain(nine))
	takes(t, x, five, 5, first(wordy(5, 2))...)
	takes(t, x, nine, 3, first(brief(9, 5))...)
	heard(t, x, 1, plain(seven), items(anti, first(brief(9, 5)))...)
	waits(t, x, seven, nine)
	stands(t, x, 5, 1)
}

// P15.1: what config.Check does not take makes no node, and its error is told, whichever federate is asked for.
func TestNewOfWhatMayNotBe(t *testing.T) {
	for _, y := range []struct {
		e    api.Errno
		turn func(w *api.World)
	}{
		{api.ErrTree, func(w *api.World) { *w = api.World{} }},
		{api.ErrTree, func(w *api.World) { w.Parents[0], w.End = 0, -1 }},
		{api.ErrArg, func(w *api.World) { w.End = -1 }},
		{api.ErrArg, func(w *api.World) { w.Feds = nil }},
		{api.ErrArg, func(w *api.World) { w.Feds = slices.Repeat(w.Feds, 3) }},
		{api.ErrArg, func(w *api.World) { w.Feds[2].Kind = 2 }},
		{api.ErrLook, func(w *api.World) { w.Feds[2].Look = 0 }},
		{api.ErrLook, func(w *api.World) { w.Feds[0].Rules[1].Sends[0].Delay = 1 }},
		{api.ErrRule, func(w *api.World) { w.Feds[2].Start = api.MaxState }},
		{api.ErrRule, func(w *api.World) { w.Feds[0].Rules[0].Next = -1 }},
		{api.ErrClass, func(w *api.World) { w.Feds[2].Subs[1] = 4 }},
		{api.ErrInit, func(w *api.World) { w.Feds[0].Init[0].Delay = -1 }},
	} {
		for _, f := range []int{math.MinInt, -1, 0, 1, 2, 3, 4, math.MaxInt} {
			w := four()
			y.turn(&w)
			if x, e := warp.New(w, f); x != nil || e != y.e {
				t.Errorf("New(%v, %d): %v, %d, not %d", w, f, x, e, y.e)
			}
		}
	}
}

// P15.1: no node of a federate that there is not, or that is conservative.
func TestNewOfNoFederate(t *testing.T) {
	for _, f := range []int{math.MinInt, -api.MaxFeds, -1, 2, 4, 5, api.MaxFeds, 1 << 32, math.MaxInt} {
		if x, e := warp.New(four(), f); x != nil || e != api.ErrArg {
			t.Errorf("New(%d): %v, %d", f, x, e)
		}
	}
	w := four()
	w.Feds[0].Kind, w.Feds[2].Kind = 0, 1
	if x, e := warp.New(w, 0); x != nil || e != api.ErrArg {
		t.Errorf("New of one that is conservative: %v, %d", x, e)
	}
	made(t, w, 2)
}

// P15.1: what a node is at first, of each federate that may be one.
func TestNew(t *testing.T) {
	for f, want := range map[int]told{0: {state: 3, promise: 2}, 1: {promise: 1}, 3: {state: 4, promise: 9}} {
		x := made(t, four(), f)
		if is := tells(x); !is.same(want) {
			t.Errorf("New of %d: %v, not %v", f, is, want)
		}
		stays(t, x, api.ErrIdle)
		settles(t, x, 0, nil)
	}
}

// P15.1: a clock for each conservative federate, and for nobody else: without one nothing holds the local time.
func TestNewHasClocks(t *testing.T) {
	for kinds := range 1 << 4 {
		w := api.World{Parents: []int{-1}, End: 9, Feds: []api.Fed{{Kind: 1, Look: 1}}}
		for j := range 4 {
			w.Feds = append(w.Feds, api.Fed{Kind: kinds >> j & 1, Look: 1})
		}
		x := made(t, w, 0)
		least := api.Inf
		for j := 1; j <= 4; j++ {
			if w.Feds[j].Kind == 1 {
				refused(t, x, j, bound(20+j), api.ErrArg)
				continue
			}
			local(t, x, 0)
			heard(t, x, j, bound(20+j))
			least = min(least, 20+j)
		}
		local(t, x, least)
	}
}

// P15.1: who is alone hears of nobody.
func TestAlone(t *testing.T) {
	x := made(t, api.World{Parents: []int{-1}, End: 9, Feds: []api.Fed{{Kind: 1, Look: 4}}}, 0)
	for _, from := range []int{-1, 0, 1} {
		for _, i := range []api.Item{plain(from1(5, 0)), anti(from1(5, 0)), bound(5)} {
			refused(t, x, from, i, api.ErrArg)
		}
	}
	local(t, x, api.Inf)
	settles(t, x, api.Inf, nil)
	if x.Promise() != api.Inf {
		t.Errorf("Promise: %d", x.Promise())
	}
}

// P15.2: undone is the last one first; what each sent is taken back in its order, what went to nobody or is held needs nothing.
func TestUndoIsLastFirst(t *testing.T) {
	x := made(t, four(), 0)
	for i := range 4 {
		heard(t, x, 1, plain(from1(10+i, i)))
	}
	takes(t, x, from1(10, 0), 5, first(wordy(10, 2))...)
	takes(t, x, from1(11, 1), 3, first(brief(11, 5))...)
	takes(t, x, from1(12, 2), 5, first(wordy(12, 6))...)
	takes(t, x, from1(13, 3), 3, first(brief(13, 9))...)
	late := message(10, 3, 0, 0, 2, 0)
	heard(t, x, 3, plain(late), items(anti, first(brief(13, 9)), first(wordy(12, 6)), first(brief(11, 5)))...)
	stands(t, x, 5, 1)
	waits(t, x, late, from1(11, 1), from1(12, 2), from1(13, 3))
	heard(t, x, 2, bound(400))
	// The same numbers again, and of what was held nothing but what was not undone.
	takes(t, x, late, 5)
	takes(t, x, from1(11, 1), 3, first(brief(11, 5))...)
	settles(t, x, 12, []api.Done{{Msg: from1(10, 0), State: 5}, {Msg: late, State: 5}, {Msg: from1(11, 1), State: 3}},
		slices.Concat(second(wordy(10, 2)), second(brief(11, 5)))...)
}

// P15.2: undone is what does not stand ahead of the key, by all of its parts.
func TestUndoByKeys(t *testing.T) {
	for _, y := range []struct {
		k     api.Key
		stays int
	}{
		{api.Key{T: 4, From: 9, Seq: 9}, 0}, {api.Key{T: 5, From: 1, Seq: 0}, 0},
		{api.Key{T: 5, From: 1, Seq: 2}, 1}, {api.Key{T: 5, From: 2, Seq: 0}, 2}, {api.Key{T: 5, From: 3, Seq: 5}, 2},
		{api.Key{T: 5, From: 4, Seq: 0}, 3}, {api.Key{T: 6, From: 0, Seq: 0}, 3}, {api.Key{T: 7, From: 1, Seq: 4}, 3},
		{api.Key{T: 7, From: 1, Seq: 6}, 4}, {api.Key{T: 7, From: 2, Seq: 0}, 4},
	} {
		x := made(t, quiet(), 0)
		l := []api.Msg{from1(5, 1), from1(5, 3), message(5, 3, 6, 0, 1, 0), from1(7, 5)}
		for _, m := range l {
			heard(t, x, 1, plain(m))
		}
		for range l {
			x.Step()
		}
		late := api.Msg{Key: y.k}
		heard(t, x, 1, plain(late))
		stands(t, x, 0, y.stays)
		waits(t, x, append([]api.Msg{late}, l[y.stays:]...)...)
	}
}

// P15.3: who is nobody is told first, whatever comes.
func TestHearOfNobody(t *testing.T) {
	x := made(t, four(), 0)
	heard(t, x, 1, plain(from1(9, 0)))
	heard(t, x, 2, bound(4))
	for _, from := range nobodies {
		for _, kind := range append([]int{api.Plain, api.Anti, api.Bound}, noKinds...) {
			for _, at := range []int{-1, 3, 4, 9, api.Inf, api.Inf + 1} {
				refused(t, x, from, api.Item{Kind: kind, Msg: from1(at, 0)}, api.ErrArg)
			}
		}
	}
}

// P15.3: an item of another kind is out of order, whatever else it is.
func TestHearOtherKinds(t *testing.T) {
	x := made(t, four(), 0)
	heard(t, x, 1, plain(from1(9, 0)))
	heard(t, x, 2, bound(4))
	for _, kind := range noKinds {
		for _, from := range []int{1, 2, 3} {
			for _, at := range []int{-1, 3, 4, 9, api.Inf, api.Inf + 1} {
				refused(t, x, from, api.Item{Kind: kind, Msg: from1(at, 0)}, api.ErrOrder)
			}
		}
	}
}

// P15.3: a bound moves the clock of a conservative federate, and never back.
func TestHearBound(t *testing.T) {
	x := made(t, four(), 0)
	for _, at := range []int{0, 0, 5, 5, 6, api.MaxTime, api.MaxTime, api.Inf, api.Inf} {
		heard(t, x, 2, bound(at))
		local(t, x, at)
		if at > 0 {
			refused(t, x, 2, bound(0), api.ErrEarly)
		}
		if at > 0 && at < api.Inf {
			refused(t, x, 2, bound(at-1), api.ErrEarly)
		}
		for _, from := range []int{1, 3} {
			refused(t, x, from, bound(at), api.ErrArg)
		}
		// Even what is below the clock is no time first.
		for _, none := range noTimes {
			refused(t, x, 2, bound(none), api.ErrArg)
		}
	}
	refused(t, x, 2, bound(api.MaxTime), api.ErrEarly)
	waits(t, x)
}

// P15.3: of a bound nothing but its T counts; it undoes nothing, be it behind what was taken or ahead of it.
func TestHearBoundByItsTime(t *testing.T) {
	x := made(t, four(), 0)
	heard(t, x, 1, plain(from1(9, 0)))
	takes(t, x, from1(9, 0), 5, first(wordy(9, 2))...)
	heard(t, x, 2, api.Item{Kind: api.Bound, Msg: message(6, 1, 0, 7, 15, -4), Colour: 1})
	heard(t, x, 2, api.Item{Kind: api.Bound, Msg: from1(9, 0), Colour: -5})
	heard(t, x, 2, bound(12))
	stands(t, x, 5, 1)
	local(t, x, 12)
	waits(t, x)
}

// P15.3: a message below the floor is early, whoever sends it; below its clock too, if who sends it has one.
func TestHearEarly(t *testing.T) {
	x := made(t, four(), 0)
	for _, at := range []int{-1, -api.Inf, math.MinInt} {
		for _, from := range []int{1, 2, 3} {
			refused(t, x, from, plain(from1(at, 0)), api.ErrEarly)
		}
	}
	heard(t, x, 2, bound(20))
	settles(t, x, 10, nil)
	for _, from := range []int{1, 2, 3} {
		refused(t, x, from, plain(message(9, 9, 9, 0, 1, 0)), api.ErrEarly)
	}
	refused(t, x, 2, plain(message(19, 9, 9, 0, 1, 0)), api.ErrEarly)
	refused(t, x, 2, plain(message(10, 9, 9, 0, 1, 0)), api.ErrEarly)
	heard(t, x, 1, plain(message(10, 0, -5, 0, 1, 0)))
	heard(t, x, 3, plain(message(19, 0, 0, 0, 1, 0)))
	heard(t, x, 2, plain(message(20, 0, 0, 0, 1, 0)))
	waits(t, x, message(10, 0, -5, 0, 1, 0), message(19, 0, 0, 0, 1, 0), message(20, 0, 0, 0, 1, 0))
	local(t, x, 10)
}

// P15.3: a message is there once, be it waiting or taken; what is early is told ahead of that.
func TestHearTwice(t *testing.T) {
	x := made(t, four(), 0)
	taken, waiting := from1(5, 0), from1(9, 1)
	heard(t, x, 1, plain(taken))
	heard(t, x, 3, plain(waiting))
	takes(t, x, taken, 5, first(wordy(5, 2))...)
	for _, m := range []api.Msg{taken, waiting} {
		for _, from := range []int{1, 2, 3} {
			refused(t, x, from, plain(m), api.ErrTwice)
			// Its key is what counts.
			refused(t, x, from, plain(api.Msg{Key: m.Key, To: -4, Class: 3, Body: 77}), api.ErrTwice)
		}
	}
	heard(t, x, 2, bound(10))
	for _, m := range []api.Msg{taken, waiting} {
		refused(t, x, 2, plain(m), api.ErrEarly)
		refused(t, x, 1, plain(m), api.ErrTwice)
	}
	settles(t, x, 6, []api.Done{{Msg: taken, State: 5}}, second(wordy(5, 2))...)
	refused(t, x, 1, plain(taken), api.ErrEarly)
	refused(t, x, 1, plain(waiting), api.ErrTwice)
	// Taken back it may come again, as another one.
	heard(t, x, 3, anti(waiting))
	again := waiting
	again.Body++
	heard(t, x, 3, plain(again))
	waits(t, x, again)
}

// P15.3: of a message nothing is asked but its key: not to whom it goes, not its class or body, not its sender, not its colour.
func TestHearWhateverTheMessage(t *testing.T) {
	x := made(t, four(), 0)
	odd := []api.Msg{message(5, 0, 0, -9, -1, math.MinInt), message(5, 99, -7, 4, 99, math.MaxInt), message(6, -1, 0, 0, 1, -1)}
	for i, m := range odd {
		heard(t, x, 1+i, api.Item{Msg: m, Colour: 77 - i})
	}
	far := []api.Msg{from1(api.MaxTime, 0), from1(api.MaxTime+1, 0), from1(api.Inf, 0), from1(api.Inf+1, 0), from1(math.MaxInt, 0)}
	for _, m := range far {
		heard(t, x, 1, plain(m))
	}
	waits(t, x, append(odd, far...)...)
	takes(t, x, odd[0], 3)
	takes(t, x, odd[1], 3)
	takes(t, x, odd[2], 5, message(8, 0, 2, 1, 1, 0), message(13, 0, 4, 3, 3, 998))
	stays(t, x, api.ErrIdle)
	waits(t, x, far...)
}

// P15.3: what waits, what would be undone and what comes are MaxQueue at most.
func TestHearWithoutRoom(t *testing.T) {
	const taken = 5
	for waiting := api.MaxQueue - taken - 1; waiting <= api.MaxQueue; waiting++ {
		for behind := range taken + 1 {
			x := filled(t, quiet(), taken, waiting)
			// As many as behind tells stand behind it.
			m := message(10+taken-behind, 0, 0, 0, 0, 0)
			if waiting+behind+1 > api.MaxQueue {
				refused(t, x, 1, plain(m), api.ErrFull)
				refused(t, x, 2, plain(m), api.ErrFull)
				continue
			}
			heard(t, x, 1, plain(m))
			if n := len(x.Waiting()); n != waiting+behind+1 || x.Ahead() != taken-behind {
				t.Errorf("%d waited, %d stood behind: %d wait, %d were taken", waiting, behind, n, x.Ahead())
			}
		}
	}
	x := filled(t, quiet(), taken, api.MaxQueue)
	refused(t, x, 1, plain(from1(10, 0)), api.ErrTwice)
	refused(t, x, 1, plain(from1(200, 500)), api.ErrTwice)
	refused(t, x, 1, plain(from1(-1, 0)), api.ErrEarly)
	refused(t, x, 0, plain(from1(300, 0)), api.ErrArg)
	refused(t, x, 1, plain(from1(300, 0)), api.ErrFull)
	if _, _, e := x.Step(); e != api.OK {
		t.Errorf("Step: %d", e)
	}
	heard(t, x, 1, plain(from1(300, 0)))
	refused(t, x, 1, plain(from1(301, 0)), api.ErrFull)
}

// P15.3: who is conservative takes nothing back, whatever else is wrong.
func TestAntiOfAConservativeOne(t *testing.T) {
	x := made(t, four(), 0)
	heard(t, x, 2, plain(from1(5, 0)))
	heard(t, x, 1, plain(from1(9, 1)))
	takes(t, x, from1(5, 0), 5, first(wordy(5, 2))...)
	for _, m := range []api.Msg{from1(5, 0), from1(9, 1), from1(7, 7), from1(-1, 0)} {
		refused(t, x, 2, anti(m), api.ErrArg)
	}
}

// P15.3: what is settled is not taken back.
func TestAntiEarly(t *testing.T) {
	x := made(t, four(), 0)
	heard(t, x, 1, plain(from1(5, 0)))
	heard(t, x, 1, plain(from1(6, 1)))
	heard(t, x, 2, bound(9))
	takes(t, x, from1(5, 0), 5, first(wordy(5, 2))...)
	takes(t, x, from1(6, 1), 3, first(brief(6, 5))...)
	settles(t, x, 6, []api.Done{{Msg: from1(5, 0), State: 5}}, second(wordy(5, 2))...)
	for _, m := range []api.Msg{from1(5, 0), from1(5, 77), from1(-1, 0), from1(math.MinInt, 0)} {
		refused(t, x, 1, anti(m), api.ErrEarly)
	}
	refused(t, x, 1, anti(from1(6, 0)), api.ErrNone)
	heard(t, x, 1, anti(from1(6, 1)), items(anti, first(brief(6, 5)))...)
	stands(t, x, 5, 0)
}

// P15.3: what waits waits no more; nothing is undone by that.
func TestAntiOfWhatWaits(t *testing.T) {
	x := made(t, four(), 0)
	for i := range 4 {
		heard(t, x, 1, plain(from1(5+i, i)))
	}
	takes(t, x, from1(5, 0), 5, first(wordy(5, 2))...)
	// Its key is what counts, whoever sends it.
	heard(t, x, 3, api.Item{Kind: api.Anti, Msg: api.Msg{Key: from1(7, 2).Key, To: 9, Class: 9, Body: 9}, Colour: 4})
	waits(t, x, from1(6, 1), from1(8, 3))
	heard(t, x, 1, anti(from1(6, 1)))
	waits(t, x, from1(8, 3))
	refused(t, x, 1, anti(from1(6, 1)), api.ErrNone)
	stands(t, x, 5, 1)
	takes(t, x, from1(8, 3), 3, first(brief(8, 5))...)
}

// P15.3: what was taken is undone, with all behind it, and does not wait; the others do.
func TestAntiOfWhatWasTaken(t *testing.T) {
	x := made(t, four(), 0)
	for i := range 3 {
		heard(t, x, 1, plain(from1(5+i, i)))
	}
	takes(t, x, from1(5, 0), 5, first(wordy(5, 2))...)
	takes(t, x, from1(6, 1), 3, first(brief(6, 5))...)
	takes(t, x, from1(7, 2), 5, first(wordy(7, 6))...)
	heard(t, x, 3, anti(from1(6, 1)), items(anti, first(wordy(7, 6)), first(brief(6, 5)))...)
	waits(t, x, from1(7, 2))
	stands(t, x, 5, 1)
	takes(t, x, from1(7, 2), 3, first(brief(7, 5))...)
	heard(t, x, 1, anti(from1(5, 0)), items(anti, first(brief(7, 5)), first(wordy(5, 2)))...)
	waits(t, x, from1(7, 2))
	stands(t, x, 3, 0)
	takes(t, x, from1(7, 2), 5, first(wordy(7, 2))...)
	heard(t, x, 2, bound(api.Inf))
	settles(t, x, 8, []api.Done{{Msg: from1(7, 2), State: 5}}, second(wordy(7, 2))...)
}

// P15.3: what there is not is not taken back, also if there is no room.
func TestAntiOfNothing(t *testing.T) {
	x := filled(t, quiet(), 5, api.MaxQueue)
	for _, k := range []api.Key{{T: 0}, {T: 9, From: 9, Seq: 9}, {T: 10, From: 1, Seq: 1}, {T: 10, From: 0, Seq: 0}, {T: 11, From: 1, Seq: 0}, {T: 200, From: 1, Seq: 0}, {T: math.MaxInt}} {
		refused(t, x, 1, anti(api.Msg{Key: k}), api.ErrNone)
		refused(t, x, 2, anti(api.Msg{Key: k}), api.ErrArg)
	}
}

// P15.3: what waits and what would be undone are MaxQueue and 1 at most; what waits goes also if there is no room.
func TestAntiWithoutRoom(t *testing.T) {
	const taken = 5
	for waiting := api.MaxQueue - taken; waiting <= api.MaxQueue; waiting++ {
		for undone := 1; undone <= taken; undone++ {
			x := filled(t, quiet(), taken, waiting)
			back := from1(10+taken-undone, taken-undone)
			if waiting+undone > api.MaxQueue+1 {
				refused(t, x, 1, anti(back), api.ErrFull)
				heard(t, x, 1, anti(from1(200, 500)))
				continue
			}
			want := x.Waiting()
			for i := taken - 1; i > taken-undone; i-- {
				want = slices.Insert(want, 0, from1(10+i, i))
			}
			heard(t, x, 1, anti(back))
			waits(t, x, want...)
			stands(t, x, 0, taken-undone)
		}
	}
}

// P15.4: the first message by its key is taken; the state is the rule's; numbers go on behind the first messages, those that nobody hears counted too.
func TestStep(t *testing.T) {
	x := made(t, four(), 0)
	other := message(5, 2, 0, 0, 1, 998)
	for _, m := range []api.Msg{from1(7, 1), other, from1(5, 0)} {
		heard(t, x, m.Key.From, plain(m))
	}
	above := message(8, 3, 1, 0, 0, 1)
	heard(t, x, 3, plain(above))
	takes(t, x, from1(5, 0), 5, first(wordy(5, 2))...)
	waits(t, x, other, from1(7, 1), above)
	takes(t, x, other, 3, message(7, 0, 5, 3, 3, 2))
	takes(t, x, from1(7, 1), 5, first(wordy(7, 6))...)
	takes(t, x, above, 7)
	stands(t, x, 7, 4)
	stays(t, x, api.ErrIdle)
	// In state 7 there is no rule: it stays, and nothing is sent.
	heard(t, x, 1, plain(from1(9, 2)))
	takes(t, x, from1(9, 2), 7)
	waits(t, x)
	heard(t, x, 2, bound(api.Inf))
	settles(t, x, 9, []api.Done{{Msg: from1(5, 0), State: 5}, {Msg: other, State: 3}, {Msg: from1(7, 1), State: 5}, {Msg: above, State: 7}},
		slices.Concat(second(wordy(5, 2)), []api.Msg{message(7, 0, 5, 2, 3, 2)}, second(wordy(7, 6)))...)
}

// P15.4: it goes ahead, whatever the clocks are.
func TestStepIsAheadOfClocks(t *testing.T) {
	x := made(t, four(), 0)
	heard(t, x, 2, plain(from1(100, 0)))
	takes(t, x, from1(100, 0), 5, first(wordy(100, 2))...)
	local(t, x, 0)
}

// P15.4: what stands at End or behind it is never taken.
func TestStepBelowTheEnd(t *testing.T) {
	for _, y := range []struct {
		end, at int
		is      bool
	}{
		{0, 0, false}, {1, 0, true}, {1, 1, false}, {50, 49, true}, {50, 50, false}, {50, 51, false},
		{api.MaxTime, api.MaxTime - 1, true}, {api.MaxTime, api.MaxTime, false}, {api.MaxTime, api.MaxTime + 1, false}, {api.MaxTime, api.Inf, false}, {api.MaxTime, math.MaxInt, false},
	} {
		w := quiet()
		w.End = y.end
		x := made(t, w, 0)
		heard(t, x, 1, plain(from1(y.at, 0)))
		if y.is {
			takes(t, x, from1(y.at, 0), 0)
		} else {
			stays(t, x, api.ErrIdle)
		}
	}
}

// P15.4: what is sent ends at MaxTime, and bodies go round.
func TestStepAtTheEdges(t *testing.T) {
	w := four()
	w.End = api.MaxTime
	w.Feds[0].Rules = []api.Rule{{State: 3, Class: 1, Next: 3, Sends: []api.Out{{Class: 3, Delay: 2, Add: 999}, {Class: 3, Delay: 1 << 20}}}}
	x := made(t, w, 0)
	for seq, y := range []struct{ at, body int }{{api.MaxTime - 2, 1}, {api.MaxTime - 1, -1}} {
		heard(t, x, 1, plain(message(y.at, 1, seq, 0, 1, y.body)))
	}
	takes(t, x, message(api.MaxTime-2, 1, 0, 0, 1, 1), 3, message(api.MaxTime, 0, 2, 3, 3, 0), message(api.Inf, 0, 3, 3, 3, 1))
	takes(t, x, message(api.MaxTime-1, 1, 1, 0, 1, -1), 3, message(api.Inf, 0, 4, 3, 3, 998), message(api.Inf, 0, 5, 3, 3, 999))
	stays(t, x, api.ErrIdle)
}

// P15.4: there is room for MaxQueue entries; who has nothing to take is told that first; what is settled or undone makes room.
func TestStepWithoutRoomInThePast(t *testing.T) {
	x := filled(t, quiet(), api.MaxQueue, 0)
	stays(t, x, api.ErrIdle)
	heard(t, x, 1, plain(from1(api.MaxTime, 1)))
	stays(t, x, api.ErrIdle)
	more := from1(150, 0)
	heard(t, x, 1, plain(more))
	stays(t, x, api.ErrFull)
	heard(t, x, 1, anti(from1(73, 63)))
	takes(t, x, more, 0)
	heard(t, x, 1, plain(from1(151, 0)))
	stays(t, x, api.ErrFull)
	heard(t, x, 2, bound(11))
	settles(t, x, 11, []api.Done{{Msg: from1(10, 0)}})
	takes(t, x, from1(151, 0), 0)
	stands(t, x, 0, api.MaxQueue)
}

// crowd: federate 0 sends each of four conservative ones three for a message of class 0, one alone of them one for one of class 1.
func crowd() api.World {
	w := api.World{Parents: []int{-1, -1, -1, -1}, End: 900, Feds: []api.Fed{{Kind: 1, Look: 1, Pubs: []int{2, 3}, Subs: []int{0, 1}, Rules: []api.Rule{
		{Class: 0, Sends: []api.Out{{Class: 2, Delay: 1}, {Class: 2, Delay: 2}, {Class: 2, Delay: 3}}},
		{Class: 1, Sends: []api.Out{{Class: 3, Delay: 1}}},
	}}, {Kind: 1, Look: 1}}}
	for range 4 {
		w.Feds = append(w.Feds, api.Fed{Look: 1, Subs: []int{2}})
	}
	w.Feds[5].Subs = []int{2, 3}
	return w
}

// P15.4: who holds more than 3 times MaxQueue messages takes none, who holds as many takes one; what goes out or is dropped makes room.
func TestStepWithoutRoomInTheGate(t *testing.T) {
	take := func(x *warp.Node, at, class int) {
		t.Helper()
		m := message(at, 1, 0, 0, class, 0)
		heard(t, x, 1, plain(m))
		takes(t, x, m, 0)
	}
	more := message(50, 1, 0, 0, 0, 0)
	x, y := made(t, crowd(), 0), made(t, crowd(), 0)
	for at := range 3 * api.MaxQueue / 12 {
		take(x, 10+at, 0)
		take(y, 10+at, 0)
	}
	take(x, 40, 0)
	take(y, 40, 1)
	for _, node := range []*warp.Node{x, y} {
		stays(t, node, api.ErrIdle)
		heard(t, node, 1, plain(more))
		stays(t, node, api.ErrFull)
	}
	heard(t, y, 1, anti(message(40, 1, 0, 0, 1, 0)))
	takes(t, y, more, 0)
	for f := 2; f <= 5; f++ {
		heard(t, x, f, bound(11))
	}
	if d, l, e := x.Commit(11); len(d) != 1 || len(l) != 12 || e != api.OK {
		t.Errorf("Commit: %v, %v, %d", d, l, e)
	}
	takes(t, x, more, 0)
}

// P15.5: what is settled stands below the time, also of one time all; what goes out stands by its causes.
func TestCommit(t *testing.T) {
	x := made(t, four(), 0)
	l := []api.Msg{from1(5, 0), from1(6, 1), from1(6, 2), from1(8, 3)}
	for _, m := range l {
		heard(t, x, 1, plain(m))
	}
	takes(t, x, l[0], 5, first(wordy(5, 2))...)
	takes(t, x, l[1], 3, first(brief(6, 5))...)
	takes(t, x, l[2], 5, first(wordy(6, 6))...)
	unsettled(t, x, 1, api.ErrOrder)
	settles(t, x, 0, nil)
	heard(t, x, 2, bound(7))
	settles(t, x, 5, nil)
	unsettled(t, x, 4, api.ErrEarly)
	settles(t, x, 6, []api.Done{{Msg: l[0], State: 5}}, second(wordy(5, 2))...)
	stands(t, x, 5, 2)
	unsettled(t, x, 8, api.ErrOrder)
	settles(t, x, 6, nil)
	settles(t, x, 7, []api.Done{{Msg: l[1], State: 3}, {Msg: l[2], State: 5}}, slices.Concat(second(brief(6, 5)), second(wordy(6, 6)))...)
	stands(t, x, 5, 0)
	waits(t, x, l[3])
	heard(t, x, 2, bound(20))
	settles(t, x, 8, nil)
	unsettled(t, x, 9, api.ErrOrder)
	takes(t, x, l[3], 3, first(brief(8, 9))...)
	settles(t, x, 20, []api.Done{{Msg: l[3], State: 3}}, second(brief(8, 9))...)
	if x.Promise() != 22 {
		t.Errorf("Promise: %d", x.Promise())
	}
}

// P15.5: what is no time is held against floor and local time as it is.
func TestCommitOfNoTimes(t *testing.T) {
	x := made(t, four(), 0)
	for _, at := range []int{math.MinInt, -api.Inf, -1} {
		unsettled(t, x, at, api.ErrEarly)
	}
	for _, at := range []int{1, api.MaxTime, api.Inf, math.MaxInt} {
		unsettled(t, x, at, api.ErrOrder)
	}
	heard(t, x, 2, bound(api.Inf))
	heard(t, x, 1, plain(from1(api.MaxTime+5, 0)))
	settles(t, x, api.MaxTime, nil)
	settles(t, x, api.MaxTime+1, nil)
	unsettled(t, x, api.MaxTime, api.ErrEarly)
	settles(t, x, api.Inf, nil)
	unsettled(t, x, api.Inf+1, api.ErrOrder)
	unsettled(t, x, math.MaxInt, api.ErrOrder)
	unsettled(t, x, api.Inf-1, api.ErrEarly)
	waits(t, x, from1(api.MaxTime+5, 0))
	// It is below the floor now: no more is to be done with it.
	refused(t, x, 1, anti(from1(api.MaxTime+5, 0)), api.ErrEarly)
	stays(t, x, api.ErrIdle)
}

// P15.5: what is held goes out with its cause alone, never ahead of it, and never twice.
func TestCommitHoldsBack(t *testing.T) {
	x := filled(t, four(), 20, 0)
	heard(t, x, 2, bound(api.Inf))
	var held [][]api.Msg
	for i, seq := 0, 2; i < 20; i += 2 {
		held = append(held, second(wordy(10+i, seq)), second(brief(11+i, seq+3)))
		seq += 4
	}
	for i := range 20 {
		state := 5 - 2*(i%2)
		settles(t, x, 11+i, []api.Done{{Msg: from1(10+i, i), State: state}}, held[i]...)
		settles(t, x, 11+i, nil)
	}
	settles(t, x, api.Inf, nil)
}

// P15.6: the local time is that of the first message that waits, be it behind the end, or of a clock, whichever is less; what was taken does not count.
func TestLocal(t *testing.T) {
	w := four()
	w.Feds[3].Kind = 0
	x := made(t, w, 0)
	heard(t, x, 2, bound(30))
	local(t, x, 0)
	heard(t, x, 3, bound(20))
	local(t, x, 20)
	heard(t, x, 3, bound(40))
	local(t, x, 30)
	heard(t, x, 1, plain(from1(25, 0)))
	local(t, x, 25)
	heard(t, x, 1, plain(from1(24, 1)))
	local(t, x, 24)
	x.Step()
	local(t, x, 25)
	x.Step()
	local(t, x, 30)
	heard(t, x, 1, plain(from1(24, 0)), items(anti, first(wordy(24, 2))[:1])...)
	local(t, x, 24)
	heard(t, x, 1, anti(from1(24, 0)))
	heard(t, x, 1, anti(from1(24, 1)))
	heard(t, x, 1, anti(from1(25, 0)))
	local(t, x, 30)
	heard(t, x, 2, bound(api.Inf))
	heard(t, x, 3, bound(api.Inf))
	local(t, x, api.Inf)
	heard(t, x, 1, plain(from1(api.MaxTime+1, 0)))
	local(t, x, api.Inf)
	heard(t, x, 1, plain(from1(600, 0)))
	local(t, x, 600)
}

// P15.6: the promise is the floor and one's own lookahead: neither clocks nor what was taken move it.
func TestPromise(t *testing.T) {
	for f, look := range map[int]int{0: 2, 1: 1, 3: 9} {
		x := made(t, four(), f)
		promised := func(want int) {
			t.Helper()
			if got := x.Promise(); got != want {
				t.Errorf("%d's Promise: %d, not %d", f, got, want)
			}
		}
		promised(look)
		heard(t, x, 2, bound(api.Inf))
		heard(t, x, 2, plain(message(api.Inf, 2, 0, f, 1, 0)))
		promised(look)
		for _, at := range []int{1, 7, 499, api.MaxTime - look} {
			settles(t, x, at, nil)
			promised(at + look)
		}
		for _, at := range []int{api.MaxTime - look + 1, api.MaxTime, api.Inf} {
			settles(t, x, at, nil)
			promised(api.Inf)
		}
	}
}
