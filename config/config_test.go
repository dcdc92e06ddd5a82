package config_test

import (
	"math"
	"slices"
	"testing"

	"paceline/api"
	"paceline/config"
	"paceline/table"
	"paceline/tree"
	"paceline/vtime"
)

// four is a federation of four: class 1 and 2 are kinds of 0, 3 is one of 1, and 4 stands alone.
func four() api.World {
	return api.World{Parents: []int{-1, 0, 0, 1, -1}, End: 100, Feds: []api.Fed{
		lively(),
		{Kind: 1, Look: 1, Start: 7, Subs: []int{0}},
		lively(),
		{Look: 1 << 20, Pubs: []int{4}, Subs: []int{1, 4}},
	}}
}

// lively is a federate with something at every place where something may be wrong.
func lively() api.Fed {
	return api.Fed{
		Look: 3, Start: 1, Pubs: []int{1, 3}, Subs: []int{2, 4},
		Rules: []api.Rule{
			{State: 0, Class: 0, Next: 1, Sends: []api.Out{{Class: 1, Delay: 3, Add: 1}, {Class: 3, Delay: 4, Add: 2}}},
			{State: 1, Class: 0, Next: 0, Sends: []api.Out{{Class: 3, Delay: 1 << 20, Add: 999}}},
		},
		Init: []api.Out{{Class: 3, Delay: 0, Add: 0}, {Class: 1, Delay: 9, Add: 7}},
	}
}

// copied is a world that shares nothing with w.
func copied(w api.World) api.World {
	w.Parents = slices.Clone(w.Parents)
	w.Feds = slices.Clone(w.Feds)
	for f := range w.Feds {
		fed := &w.Feds[f]
		fed.Rules = slices.Clone(fed.Rules)
		for r := range fed.Rules {
			fed.Rules[r].Sends = slices.Clone(fed.Rules[r].Sends)
		}
		fed.Pubs, fed.Subs, fed.Init = slices.Clone(fed.Pubs), slices.Clone(fed.Subs), slices.Clone(fed.Init)
	}
	return w
}

// same tells whether all of both is the same.
func same(v, w api.World) bool {
	return v.End == w.End && slices.Equal(v.Parents, w.Parents) && slices.EqualFunc(v.Feds, w.Feds, func(a, b api.Fed) bool {
		return a.Kind == b.Kind && a.Look == b.Look && a.Start == b.Start &&
			slices.Equal(a.Pubs, b.Pubs) && slices.Equal(a.Subs, b.Subs) && slices.Equal(a.Init, b.Init) &&
			slices.EqualFunc(a.Rules, b.Rules, func(r, s api.Rule) bool {
				return r.State == s.State && r.Class == s.Class && r.Next == s.Next && slices.Equal(r.Sends, s.Sends)
			})
	})
}

// checked holds what Check answers against a federate's number and an error's.
func checked(t *testing.T, w api.World, number int, want api.Errno) {
	t.Helper()
	if n, e := config.Check(w); n != number || e != want {
		t.Errorf("Check(%v): %d, %d, not %d, %d", w, n, e, number, want)
	}
}

// turned checks four, changed in one place of its federate 2.
func turned(t *testing.T, want api.Errno, turn func(fed *api.Fed)) {
	t.Helper()
	w := four()
	turn(&w.Feds[2])
	number := 2
	if want == api.OK {
		number = -1
	}
	checked(t, w, number, want)
}

// within checks n and its neighbours as what turn puts into federate 2: want, if it is not least to most.
func within(t *testing.T, want api.Errno, least, most int, turn func(fed *api.Fed, n int)) {
	t.Helper()
	for _, n := range []int{math.MinInt, -1 << 40, -1, 0, 1, least - 1, least, least + 1, most - 1, most, most + 1, api.Inf, math.MaxInt} {
		e := want
		if least <= n && n <= most {
			e = api.OK
		}
		turned(t, e, func(fed *api.Fed) { turn(fed, n) })
	}
}

// routed: Routes answers just that.
func routed(t *testing.T, w api.World, f, c int, to ...int) {
	t.Helper()
	if got := config.Routes(w, f, c); !slices.Equal(got, to) {
		t.Errorf("Routes(%d, %d): %v, not %v", f, c, got, to)
	}
}

// listed: these are just the messages.
func listed(t *testing.T, what string, got []api.Msg, want ...api.Msg) {
	t.Helper()
	if !slices.Equal(got, want) {
		t.Errorf("%s: %v, not %v", what, got, want)
	}
}

// message puts one together.
func message(at, from, seq, to, class, body int) api.Msg {
	return api.Msg{Key: api.Key{T: at, From: from, Seq: seq}, To: to, Class: class, Body: body}
}

// numbers tells numbers below n, the same ones for the same seed.
func numbers(seed uint32) func(n int) int {
	return func(n int) int {
		seed = seed*1664525 + 1013904223
		return int(seed>>8) % n
	}
}

// The chapter's example.
func TestExample(t *testing.T) {
	w := four()
	w.Feds[0].Rules[1].Sends[0].Delay = w.Feds[0].Look - 1
	checked(t, w, 0, api.ErrLook)
}

// P8.1: federations that may be, the least one and full ones among them.
func TestFederationsThatMayBe(t *testing.T) {
	checked(t, four(), -1, api.OK)
	checked(t, api.World{Parents: []int{-1}, Feds: []api.Fed{{Look: 1}}}, -1, api.OK)
	all := make([]int, api.MaxClass)
	for c := range all {
		all[c] = c
	}
	last := api.Out{Class: api.MaxClass - 1, Delay: 1 << 20, Add: api.MaxBody - 1}
	full := api.Fed{Kind: 1, Look: 1 << 20, Start: api.MaxState - 1, Pubs: all, Subs: all, Init: slices.Repeat([]api.Out{{Class: api.MaxClass - 1, Delay: api.MaxTime, Add: api.MaxBody - 1}}, 4)}
	for i := range api.MaxRules {
		full.Rules = append(full.Rules, api.Rule{State: i % api.MaxState, Class: api.MaxClass - 1 - i/api.MaxState, Sends: slices.Repeat([]api.Out{last}, api.MaxSends)})
	}
	w := api.World{Parents: slices.Repeat([]int{-1}, api.MaxClass), Feds: slices.Repeat([]api.Fed{full}, api.MaxFeds), End: api.MaxTime}
	checked(t, w, -1, api.OK)
}

// P8.1: what is wrong with the whole.
func TestTheWhole(t *testing.T) {
	for _, parents := range [][]int{nil, {}, {0}, {-1, 0, 0, 1, 4}, {-2, 0, 0, 1, -1}, {-1, 0, 0, 1, math.MaxInt}, slices.Repeat([]int{-1}, api.MaxClass+1)} {
		w := four()
		w.Parents = parents
		checked(t, w, -1, api.ErrTree)
	}
	for _, end := range []int{math.MinInt, -1, 0, 1, api.MaxTime - 1, api.MaxTime, api.MaxTime + 1, api.Inf, math.MaxInt} {
		w := four()
		w.End = end
		want := api.ErrArg
		if 0 <= end && end <= api.MaxTime {
			want = api.OK
		}
		checked(t, w, -1, want)
	}
	for n := range 20 {
		w := four()
		w.Feds = slices.Repeat([]api.Fed{lively()}, n)
		want := api.ErrArg
		if 1 <= n && n <= api.MaxFeds {
			want = api.OK
		}
		checked(t, w, -1, want)
	}
}

// P8.1: Kind, Look and Start, each on both sides of its edges.
func TestNumbersOfFederates(t *testing.T) {
	within(t, api.ErrArg, 0, 1, func(fed *api.Fed, n int) { fed.Kind = n })
	within(t, api.ErrRule, 0, api.MaxState-1, func(fed *api.Fed, n int) { fed.Start = n })
	within(t, api.ErrLook, 1, 1<<20, func(fed *api.Fed, n int) { fed.Look, fed.Rules = n, nil })
}

// P8.1: table.Check's error, of each kind.
func TestRulesOfTheTable(t *testing.T) {
	for _, turn := range []func(fed *api.Fed){
		func(fed *api.Fed) { fed.Rules[0].State = 1 },
		func(fed *api.Fed) { fed.Rules[1].State = api.MaxState },
		func(fed *api.Fed) { fed.Rules[0].Next = -1 },
		func(fed *api.Fed) { fed.Rules[0].Class = api.MaxClass },
		func(fed *api.Fed) { fed.Rules = make([]api.Rule, api.MaxRules+1) },
		func(fed *api.Fed) { fed.Rules[1].Sends = slices.Repeat(fed.Rules[1].Sends, api.MaxSends+1) },
		func(fed *api.Fed) { fed.Rules[0].Sends[1].Class = -1 },
		func(fed *api.Fed) { fed.Rules[0].Sends[1].Delay = 1<<20 + 1 },
		func(fed *api.Fed) { fed.Rules[0].Sends[1].Add = api.MaxBody },
	} {
		turned(t, api.ErrRule, turn)
	}
}

// P8.1: lists of classes that there are, each rising, none twice.
func TestListsOfClasses(t *testing.T) {
	bare := func(fed *api.Fed) { fed.Rules, fed.Init = nil, nil }
	for want, lists := range map[api.Errno][][]int{
		api.OK:       {nil, {}, {0}, {4}, {0, 4}, {1, 2, 3}, {0, 1, 2, 3, 4}},
		api.ErrClass: {{-1}, {5}, {api.MaxClass - 1}, {math.MinInt}, {math.MaxInt}, {-1, 0}, {0, 5}, {0, 0}, {4, 4}, {1, 0}, {0, 2, 1}, {0, 2, 2}, {2, 0, 1}, {0, 1, 2, 3, 4, 5}, {0, 1, 2, 3, 4, 4}, slices.Repeat([]int{1}, 300)},
	} {
		for _, list := range lists {
			turned(t, want, func(fed *api.Fed) { bare(fed); fed.Pubs = list })
			turned(t, want, func(fed *api.Fed) { bare(fed); fed.Subs = list })
			turned(t, want, func(fed *api.Fed) { bare(fed); fed.Pubs, fed.Subs = list, slices.Clone(list) })
		}
	}
}

// P8.1: the classes of rules and of their sends, and delays below the lookahead, in each place.
func TestClassesAndDelaysOfRules(t *testing.T) {
	for rule := range 2 {
		for class := range api.MaxClass {
			want := api.OK
			if class > 4 {
				want = api.ErrClass
			}
			turned(t, want, func(fed *api.Fed) { fed.Rules[rule].Class = class })
		}
	}
	for _, x := range []struct{ rule, send int }{{0, 0}, {0, 1}, {1, 0}} {
		for class := range api.MaxClass {
			want := api.ErrClass
			if class == 1 || class == 3 {
				want = api.OK
			}
			turned(t, want, func(fed *api.Fed) { fed.Rules[x.rule].Sends[x.send].Class = class })
		}
		for delay := range 8 {
			want := api.OK
			if delay < 3 {
				want = api.ErrLook
			}
			turned(t, want, func(fed *api.Fed) { fed.Rules[x.rule].Sends[x.send].Delay = delay })
		}
	}
}

// P8.1: a kind of what is published is not published, nor is what it is a kind of.
func TestSendsAreOfTheClassItself(t *testing.T) {
	only := func(published, sent int, want api.Errno) {
		t.Helper()
		out := []api.Out{{Class: sent, Delay: 1}}
		w := api.World{Parents: []int{-1, 0, 1}, Feds: []api.Fed{{Look: 1, Pubs: []int{published}, Rules: []api.Rule{{Sends: out}}}}}
		number := -1
		if want != api.OK {
			number = 0
		}
		checked(t, w, number, want)
		w.Feds[0].Rules, w.Feds[0].Init = nil, out
		if want != api.OK {
			want = api.ErrInit
		}
		checked(t, w, number, want)
	}
	for published := range 3 {
		for sent := range 3 {
			want := api.ErrClass
			if sent == published {
				want = api.OK
			}
			only(published, sent, want)
		}
	}
}

// P8.1: how many first messages there are, and each number of each of them.
func TestFirstMessages(t *testing.T) {
	for n := range 10 {
		want := api.OK
		if n > 4 {
			want = api.ErrInit
		}
		turned(t, want, func(fed *api.Fed) { fed.Init = slices.Repeat([]api.Out{{Class: 1}}, n) })
	}
	for i := range 2 {
		within(t, api.ErrInit, 0, api.MaxTime, func(fed *api.Fed, n int) { fed.Init[i].Delay = n })
		within(t, api.ErrInit, 0, api.MaxBody-1, func(fed *api.Fed, n int) { fed.Init[i].Add = n })
		for _, class := range []int{math.MinInt, -1, 0, 1, 2, 3, 4, 5, api.MaxClass, math.MaxInt} {
			want := api.ErrInit
			if class == 1 || class == 3 {
				want = api.OK
			}
			turned(t, want, func(fed *api.Fed) { fed.Init[i].Class = class })
		}
	}
}

// fault is something wrong, and what is told of it.
type fault struct {
	number int
	e      api.Errno
	turn   func(w *api.World)
}

// faultsOf are faults of federate f of four, in the order in which they are told.
func faultsOf(f int) []fault {
	var all []fault
	put := func(e api.Errno, turn func(fed *api.Fed)) {
		all = append(all, fault{f, e, func(w *api.World) { turn(&w.Feds[f]) }})
	}
	put(api.ErrArg, func(fed *api.Fed) { fed.Kind = 2 })
	put(api.ErrLook, func(fed *api.Fed) { fed.Look = -7 })
	put(api.ErrRule, func(fed *api.Fed) { fed.Start = api.MaxState })
	put(api.ErrRule, func(fed *api.Fed) { fed.Rules[1].Next = api.MaxState })
	put(api.ErrClass, func(fed *api.Fed) { fed.Pubs = append(fed.Pubs, 9) })
	put(api.ErrClass, func(fed *api.Fed) { fed.Subs = append(fed.Subs, 0) })
	put(api.ErrClass, func(fed *api.Fed) { fed.Rules[0].Class = 5 })
	put(api.ErrClass, func(fed *api.Fed) { fed.Rules[0].Sends[0].Class = 2 })
	put(api.ErrLook, func(fed *api.Fed) { fed.Rules[0].Sends[0].Delay = 2 })
	put(api.ErrClass, func(fed *api.Fed) { fed.Rules[0].Sends[1].Class = 8 })
	put(api.ErrLook, func(fed *api.Fed) { fed.Rules[0].Sends[1].Delay = 0 })
	put(api.ErrClass, func(fed *api.Fed) { fed.Rules[1].Class = api.MaxClass - 1 })
	put(api.ErrClass, func(fed *api.Fed) { fed.Rules[1].Sends[0].Class = 0 })
	put(api.ErrLook, func(fed *api.Fed) { fed.Rules[1].Sends[0].Delay = 1 })
	put(api.ErrInit, func(fed *api.Fed) { fed.Init[1].Add = -1 })
	return all
}

// P8.1: of two things that are wrong the one is told that the document names first.
func TestTheFirstFaultIsTold(t *testing.T) {
	faults := []fault{
		{-1, api.ErrTree, func(w *api.World) { w.Parents[0] = 0 }},
		{-1, api.ErrArg, func(w *api.World) { w.End = -1 }},
	}
	faults = append(faults, faultsOf(0)...)
	faults = append(faults, faultsOf(2)...)
	for i, x := range faults {
		w := four()
		x.turn(&w)
		checked(t, w, x.number, x.e)
		for _, y := range faults[i+1:] {
			w := four()
			y.turn(&w)
			x.turn(&w)
			// A lookahead below 1 takes the faults of delays away, but it is told ahead of them.
			checked(t, w, x.number, x.e)
		}
	}
	w := four()
	for i := len(faults) - 1; i >= 0; i-- {
		faults[i].turn(&w)
		checked(t, w, faults[i].number, faults[i].e)
	}
}

// P8.1: federates that are too many or none are the whole's fault, whatever is wrong with them; a tree that is none goes ahead of it.
func TestTheWholeAheadOfFederates(t *testing.T) {
	w := four()
	w.Feds = make([]api.Fed, api.MaxFeds+1)
	checked(t, w, -1, api.ErrArg)
	w.Parents = nil
	checked(t, w, -1, api.ErrTree)
	w.Feds = nil
	checked(t, w, -1, api.ErrTree)
	checked(t, api.World{}, -1, api.ErrTree)
}

// P8.2: all others that subscribe to the class or to one above it, once each, never the sender.
func TestRoutes(t *testing.T) {
	w := four()
	for c, hear := range [][]int{{1}, {1, 3}, {0, 1, 2}, {1, 3}, {0, 2, 3}} {
		for f := range w.Feds {
			routed(t, w, f, c, slices.DeleteFunc(slices.Clone(hear), func(other int) bool { return other == f })...)
		}
	}
	for _, c := range []int{math.MinInt, -1, 5, api.MaxClass, math.MaxInt} {
		for f := range w.Feds {
			routed(t, w, f, c)
		}
	}
	w.Feds[1].Subs = []int{0, 1, 3}
	routed(t, w, 0, 3, 1, 3)
	w.Feds = w.Feds[:1]
	routed(t, w, 0, 2)
}

// worlds are many federations that may be.
func worlds(t *testing.T) []api.World {
	t.Helper()
	next := numbers(8)
	all := []api.World{four()}
	for range 60 {
		w := api.World{Parents: make([]int, 1+next(api.MaxClass)), Feds: make([]api.Fed, 1+next(api.MaxFeds)), End: next(1000)}
		for c := range w.Parents {
			w.Parents[c] = next(c+1) - 1
		}
		for f := range w.Feds {
			w.Feds[f] = anyFed(next, len(w.Parents))
		}
		checked(t, w, -1, api.OK)
		all = append(all, w)
	}
	return all
}

// anyFed is a federate that may be, where there are so many classes.
func anyFed(next func(int) int, classes int) api.Fed {
	fed := api.Fed{Kind: next(2), Look: 1 + next(9), Start: next(api.MaxState)}
	for c := range classes {
		if next(3) > 0 {
			fed.Pubs = append(fed.Pubs, c)
		}
		if next(4) == 0 {
			fed.Subs = append(fed.Subs, c)
		}
	}
	outs := func(most, least int) []api.Out {
		if len(fed.Pubs) == 0 {
			return nil
		}
		l := make([]api.Out, next(most+1))
		for i := range l {
			l[i] = api.Out{Class: fed.Pubs[next(len(fed.Pubs))], Delay: least + next(5), Add: next(api.MaxBody)}
		}
		return l
	}
	for state := range api.MaxState {
		fed.Rules = append(fed.Rules, api.Rule{State: state, Class: next(classes), Next: next(api.MaxState), Sends: outs(api.MaxSends, fed.Look)})
	}
	fed.Init = outs(4, 0)
	return fed
}

// P8.2: of many federations, held against what tree.IsA tells.
func TestRoutesByKinds(t *testing.T) {
	for _, w := range worlds(t) {
		for f := range w.Feds {
			for c := range w.Parents {
				var want []int
				for other, fed := range w.Feds {
					if other != f && slices.ContainsFunc(fed.Subs, func(s int) bool { return tree.IsA(w.Parents, c, s) }) {
						want = append(want, other)
					}
				}
				routed(t, w, f, c, want...)
			}
		}
	}
}

// P8.3: out by out, federate by federate, each out with a number of its own, those that nobody hears too.
func TestSpread(t *testing.T) {
	w := four()
	w.Feds[3].Subs = []int{1}
	x, y, z := api.Out{Class: 3, Delay: 5, Add: 2}, api.Out{Class: 4, Delay: 7, Add: 3}, api.Out{Class: 0, Delay: 0, Add: 0}
	listed(t, "of none", config.Spread(w, 0, 9, 10, 999, nil))
	listed(t, "of one", config.Spread(w, 0, 9, 10, 999, []api.Out{x}), message(15, 0, 9, 1, 3, 1), message(15, 0, 9, 3, 3, 1))
	listed(t, "of three", config.Spread(w, 2, 0, 1, 1, []api.Out{z, y, x}),
		message(1, 2, 0, 1, 0, 1), message(8, 2, 1, 0, 4, 4), message(6, 2, 2, 1, 3, 3), message(6, 2, 2, 3, 3, 3))
	w.Feds[0].Subs, w.Feds[2].Subs = nil, nil
	listed(t, "of one that nobody hears", config.Spread(w, 0, 4, 1, 1, []api.Out{y, z, y, z}), message(1, 0, 5, 1, 0, 1), message(1, 0, 7, 1, 0, 1))
	listed(t, "of the same twice", config.Spread(w, 3, 1, 2, 3, []api.Out{z, z}), message(2, 3, 1, 1, 0, 3), message(2, 3, 2, 1, 0, 3))
	listed(t, "of a class that is none", config.Spread(w, 0, 0, 0, 0, []api.Out{{Class: 5}, {Class: -1}, z}), message(0, 0, 2, 1, 0, 0))
}

// P8.3: times end at MaxTime, bodies go round.
func TestSpreadAtTheEdges(t *testing.T) {
	w := four()
	for _, x := range []struct{ now, delay, at int }{
		{api.MaxTime, 0, api.MaxTime}, {api.MaxTime, 1, api.Inf}, {api.MaxTime - 1, 1, api.MaxTime}, {api.Inf, 0, api.Inf}, {0, 1 << 20, 1 << 20},
	} {
		listed(t, "a time", config.Spread(w, 0, 0, x.now, 0, []api.Out{{Class: 0, Delay: x.delay}}), message(x.at, 0, 0, 1, 0, 0))
	}
	for _, x := range []struct{ body, add, is int }{{999, 1, 0}, {999, 999, 998}, {1000, 0, 0}, {-1, 0, 999}, {-1, 1, 0}} {
		listed(t, "a body", config.Spread(w, 0, 0, 0, x.body, []api.Out{{Class: 0, Add: x.add}}), message(0, 0, 0, 1, 0, x.is))
	}
}

// P8.3: whatever the numbers, Spread is table.Sent to each of Routes.
func TestSpreadIsWhatIsSent(t *testing.T) {
	some := []int{math.MinInt, -1, 0, 7, 1 << 41, math.MaxInt}
	for _, w := range worlds(t) {
		for f := range w.Feds {
			outs := w.Feds[f].Init
			for _, r := range w.Feds[f].Rules {
				outs = append(outs, r.Sends...)
			}
			for i := range some {
				seq, now, body := some[i], some[(i+1)%len(some)], some[(i+3)%len(some)]
				var want []api.Msg
				for j, o := range outs {
					for _, to := range config.Routes(w, f, o.Class) {
						m := table.Sent(f, seq+j, now, body, o)
						m.To = to
						want = append(want, m)
					}
				}
				listed(t, "Spread", config.Spread(w, f, seq, now, body, outs), want...)
			}
		}
	}
}

// P8.3: the first messages of each federate, numbered from 0 on.
func TestStarts(t *testing.T) {
	w := four()
	listed(t, "Starts", config.Starts(w),
		message(0, 0, 0, 1, 3, 0), message(0, 0, 0, 3, 3, 0), message(9, 0, 1, 1, 1, 7), message(9, 0, 1, 3, 1, 7),
		message(0, 2, 0, 1, 3, 0), message(0, 2, 0, 3, 3, 0), message(9, 2, 1, 1, 1, 7), message(9, 2, 1, 3, 1, 7))
	w.Feds[2].Init = []api.Out{{Class: 3, Delay: api.MaxTime, Add: 999}}
	w.Feds[0].Init = nil
	listed(t, "Starts", config.Starts(w), message(api.MaxTime, 2, 0, 1, 3, 999), message(api.MaxTime, 2, 0, 3, 3, 999))
	w.Feds[2].Init = nil
	listed(t, "Starts without any", config.Starts(w))
	for _, w := range worlds(t) {
		var want []api.Msg
		for f, fed := range w.Feds {
			want = append(want, config.Spread(w, f, 0, 0, 0, fed.Init)...)
		}
		listed(t, "Starts", config.Starts(w), want...)
	}
}

// P8.4: what a rule sends is later by the lookahead at least.
func TestLookaheadHolds(t *testing.T) {
	for _, w := range worlds(t) {
		for f, fed := range w.Feds {
			for _, r := range fed.Rules {
				for _, now := range []int{0, 17, api.MaxTime - 3, api.MaxTime} {
					_, outs := table.Step(fed.Rules, r.State, r.Class)
					for _, m := range config.Spread(w, f, 0, now, 0, outs) {
						if m.Key.T < vtime.Add(now, fed.Look) {
							t.Errorf("federate %d of lookahead %d sends %v at %d", f, fed.Look, m, now)
						}
					}
				}
			}
		}
	}
}

// P8.4: no two messages to one federate have one key, and none goes to who sent it.
func TestKeysAreOnesOwn(t *testing.T) {
	type place struct {
		key api.Key
		to  int
	}
	for _, w := range worlds(t) {
		all := config.Starts(w)
		for f, fed := range w.Feds {
			sent := len(fed.Init)
			for _, r := range fed.Rules {
				all = append(all, config.Spread(w, f, sent, 5, 5, r.Sends)...)
				sent += len(r.Sends)
			}
		}
		have := map[place]int{}
		for _, m := range all {
			have[place{m.Key, m.To}]++
			if have[place{m.Key, m.To}] > 1 || m.To == m.Key.From {
				t.Errorf("%v comes again, or to its sender", m)
			}
		}
	}
}

// R1: of what Check refuses, and of federates that there are not, each call ends.
func TestAllCallsEnd(t *testing.T) {
	wild := []int{math.MinInt, -1, 0, 3, 8, math.MaxInt}
	broken := four()
	broken.Parents = []int{1, 0, 9, -5}
	broken.Feds[0].Subs = wild
	broken.Feds[1].Init = []api.Out{{Class: -1, Delay: -1, Add: math.MinInt}, {Class: math.MaxInt, Delay: math.MaxInt, Add: math.MaxInt}}
	many := four()
	many.Feds = slices.Repeat(many.Feds, 60)
	for _, w := range []api.World{{}, {Parents: []int{-1}}, {Feds: make([]api.Fed, 2)}, four(), broken, many} {
		config.Starts(w)
		for _, f := range wild {
			for _, n := range wild {
				config.Routes(w, f, n)
				config.Spread(w, f, n, n, n, broken.Feds[1].Init)
				config.Spread(w, f, n, n, n, four().Feds[0].Init)
			}
		}
	}
}

// R3: what is handed in stays, what lies behind its length too, and the answers share nothing with it or one another.
func TestNothingIsShared(t *testing.T) {
	w := four()
	w.Parents = append(w.Parents, 7)[:len(w.Parents)]
	for f := range w.Feds {
		w.Feds[f].Subs = append(w.Feds[f].Subs, 7)[:len(w.Feds[f].Subs)]
		w.Feds[f].Init = append(w.Feds[f].Init, api.Out{Class: 7})[:len(w.Feds[f].Init)]
	}
	before, outs := copied(w), slices.Clone(w.Feds[0].Init)
	held := func(what string) {
		t.Helper()
		if !same(w, before) || !slices.Equal(outs, before.Feds[0].Init) {
			t.Fatalf("%s: the federation is %v, the outs %v", what, w, outs)
		}
		for _, fed := range w.Feds {
			if n := len(fed.Subs); fed.Subs[:n+1][n] != 7 {
				t.Fatalf("%s: behind the subscriptions stands %v", what, fed.Subs[:n+1])
			}
			if n := len(fed.Init); fed.Init[:n+1][n] != (api.Out{Class: 7}) {
				t.Fatalf("%s: behind the first messages stands %v", what, fed.Init[:n+1])
			}
		}
		if n := len(w.Parents); w.Parents[:n+1][n] != 7 {
			t.Fatalf("%s: behind the parents stands %v", what, w.Parents[:n+1])
		}
	}
	checked(t, w, -1, api.OK)
	held("Check")
	for c := range w.Parents {
		want, scratch := config.Routes(w, 0, c), config.Routes(w, 0, c)
		again := config.Routes(w, 0, c)
		scratch = scratch[:cap(scratch)]
		for i := range scratch {
			scratch[i] = -77
		}
		if !slices.Equal(again, want) {
			t.Errorf("two answers of Routes share: %v, not %v", again, want)
		}
		routed(t, w, 0, c, want...)
		held("Routes")
	}
	for name, call := range map[string]func() []api.Msg{
		"Spread": func() []api.Msg { return config.Spread(w, 0, 3, 4, 5, outs) },
		"Starts": func() []api.Msg { return config.Starts(w) },
	} {
		want, scratch, again := call(), call(), call()
		scratch = scratch[:cap(scratch)]
		for i := range scratch {
			scratch[i] = message(-7, -7, -7, -7, -7, -7)
		}
		listed(t, name, again, want...)
		listed(t, name, call(), want...)
		held(name)
	}
}
