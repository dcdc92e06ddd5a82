package warp_test

import (
	"slices"
	"testing"

	"paceline/api"
	"paceline/warp"
)

// copied is a world that shares nothing with w.
func copied(w api.World) api.World {
	w.Parents = slices.Clone(w.Parents)
	w.Feds = slices.Clone(w.Feds)
	for f := range w.Feds {
		fed := &w.Feds[f]
		fed.Pubs, fed.Subs, fed.Init = slices.Clone(fed.Pubs), slices.Clone(fed.Subs), slices.Clone(fed.Init)
		fed.Rules = slices.Clone(fed.Rules)
		for r := range fed.Rules {
			fed.Rules[r].Sends = slices.Clone(fed.Rules[r].Sends)
		}
	}
	return w
}

// same tells whether all of both is the same.
func same(v, w api.World) bool {
	return v.End == w.End && slices.Equal(v.Parents, w.Parents) && slices.EqualFunc(v.Feds, w.Feds, func(a, b api.Fed) bool {
		return a.Kind == b.Kind && a.Look == b.Look && a.Start == b.Start &&
			slices.Equal(a.Pubs, b.Pubs) && slices.Equal(a.Subs, b.Subs) && slices.Equal(a.Init, b.Init) &&
			slices.EqualFunc(a.Rules, b.Rules, func(r, s api.Rule) bool {
				return r.State == s.State && r.Class == s.Class && r.Next == s.Next && slices.Equal(r.Sends, s.Sends)
			})
	})
}

// spoilt turns every number of w into another one.
func spoilt(w api.World) {
	for c := range w.Parents {
		w.Parents[c] = 77
	}
	for f := range w.Feds {
		fed := &w.Feds[f]
		for _, list := range [][]int{fed.Pubs, fed.Subs} {
			for i := range list {
				list[i] = 99
			}
		}
		for i := range fed.Rules {
			for j := range fed.Rules[i].Sends {
				fed.Rules[i].Sends[j] = api.Out{Class: 99, Delay: -5, Add: 5555}
			}
			fed.Rules[i] = api.Rule{State: 99, Class: 99, Next: 99}
		}
		for i := range fed.Init {
			fed.Init[i] = api.Out{Class: 99, Delay: 99, Add: 99}
		}
		*fed = api.Fed{Kind: 1 - fed.Kind}
	}
}

// P15.1, R3: w is neither changed nor kept, what lies behind its lists' lengths neither.
func TestWorldIsNotKept(t *testing.T) {
	given := four()
	given.Feds = append(given.Feds, api.Fed{Kind: 9})[:4]
	given.Feds[0].Rules = append(given.Feds[0].Rules, api.Rule{State: 9})[:3]
	given.Feds[0].Rules[1].Sends = append(given.Feds[0].Rules[1].Sends, api.Out{Class: 9})[:1]
	x := made(t, given, 0)
	heard(t, x, 1, plain(from1(5, 0)))
	heard(t, x, 1, plain(from1(7, 1)))
	takes(t, x, from1(5, 0), 5, first(wordy(5, 2))...)
	takes(t, x, from1(7, 1), 3, first(brief(7, 5))...)
	fed := given.Feds[0]
	if !same(given, four()) || given.Feds[:5][4].Kind != 9 || fed.Rules[:4][3].State != 9 || fed.Rules[1].Sends[:2][1].Class != 9 {
		t.Errorf("the world was changed: %v", given)
	}
	spoilt(given)
	heard(t, x, 1, plain(from1(6, 2)), items(anti, first(brief(7, 5)))...)
	takes(t, x, from1(6, 2), 3, first(brief(6, 5))...)
	takes(t, x, from1(7, 1), 5, first(wordy(7, 6))...)
	refused(t, x, 2, anti(from1(6, 2)), api.ErrArg)
	refused(t, x, 1, bound(6), api.ErrArg)
	heard(t, x, 2, bound(7))
	settles(t, x, 7, []api.Done{{Msg: from1(5, 0), State: 5}, {Msg: from1(6, 2), State: 3}}, slices.Concat(second(wordy(5, 2)), second(brief(6, 5)))...)
	if x.Promise() != 9 {
		t.Errorf("Promise: %d", x.Promise())
	}
	heard(t, x, 1, plain(from1(499, 3)))
	heard(t, x, 1, plain(from1(500, 4)))
	takes(t, x, from1(499, 3), 3, first(brief(499, 9))...)
	stays(t, x, api.ErrIdle)
}

// scribbled overwrites l with its spare room, and tells what it was.
func scribbled[T any](l []T, with T) []T {
	was := slices.Clone(l)
	l = l[:cap(l)]
	for i := range l {
		l[i] = with
	}
	return was
}

// R3: what a call answered is the caller's own, with its spare room.
func TestAnswersAreNewMemory(t *testing.T) {
	const n = 10
	ruin := message(-77, -77, -77, -77, -77, -77)
	x, y := made(t, four(), 0), made(t, four(), 0)
	// Each thing is done with both; what x answers is overwritten.
	both := func(call string, f func(node *warp.Node) []api.Item) {
		t.Helper()
		got, want := f(x), f(y)
		if !slices.Equal(scribbled(got, anti(ruin)), want) {
			t.Errorf("%s: not %v", call, want)
		}
		scribbled(x.Waiting(), ruin)
		scribbled(x.Log(), api.Done{State: -77})
		if a, b := tells(x), tells(y); !a.same(b) {
			t.Errorf("behind %s: %v, not %v", call, a, b)
		}
	}
	hear := func(from int, i api.Item) {
		t.Helper()
		both("Hear", func(node *warp.Node) []api.Item { l, _ := node.Hear(from, i); return l })
	}
	step := func() {
		t.Helper()
		both("Step", func(node *warp.Node) []api.Item { _, l, _ := node.Step(); return l })
	}
	for i := range n {
		hear(1, plain(from1(10+2*i, i)))
		step()
	}
	hear(1, plain(from1(17, 50)))
	for range n {
		step()
	}
	hear(1, anti(from1(14, 2)))
	for range n {
		step()
	}
	hear(2, bound(100))
	for at := 11; at < 40; at += 7 {
		d, l, e := x.Commit(at)
		d2, l2, e2 := y.Commit(at)
		if !slices.Equal(scribbled(d, api.Done{State: -77}), d2) || !slices.Equal(scribbled(l, ruin), l2) || e != e2 {
			t.Errorf("Commit(%d): %d, not %v, %v, %d", at, e, d2, l2, e2)
		}
		step()
	}
	if len(x.Log()) != n {
		t.Errorf("Log: %v", x.Log())
	}
}

// R3: what a call answered does not change by later calls.
func TestAnswersStay(t *testing.T) {
	x := made(t, four(), 0)
	for i := range 6 {
		heard(t, x, 1, plain(from1(10+i, i)))
	}
	heard(t, x, 2, bound(100))
	for range 4 {
		x.Step()
	}
	d, l, _ := x.Commit(12)
	log, waiting := x.Log(), x.Waiting()
	was, wasOut, wasLog, wasWaiting := slices.Clone(d), slices.Clone(l), slices.Clone(log), slices.Clone(waiting)
	heard(t, x, 1, anti(from1(15, 5)))
	heard(t, x, 1, plain(from1(14, 9)))
	for range 4 {
		x.Step()
	}
	x.Commit(40)
	if !slices.Equal(d, was) || !slices.Equal(l, wasOut) || !slices.Equal(log, wasLog) || !slices.Equal(waiting, wasWaiting) || len(was) != 2 || len(wasWaiting) != 2 {
		t.Errorf("an answer changed: %v, %v, %v, %v", d, l, log, waiting)
	}
}

// R3: two nodes have nothing in common, not even of one federate of one federation.
func TestNodesAreTheirOwn(t *testing.T) {
	w := four()
	x, y, z := made(t, w, 0), made(t, w, 0), made(t, w, 3)
	was, wasOther := tells(y), tells(z)
	heard(t, x, 1, plain(from1(5, 0)))
	heard(t, x, 1, plain(from1(7, 1)))
	x.Step()
	heard(t, x, 2, bound(9))
	x.Commit(6)
	if is, other := tells(y), tells(z); !is.same(was) || !other.same(wasOther) {
		t.Errorf("others have changed: %v, %v", is, other)
	}
	heard(t, y, 1, plain(from1(5, 0)))
	takes(t, y, from1(5, 0), 5, first(wordy(5, 2))...)
	settles(t, y, 0, nil)
}
