package fed_test

import (
	"math"
	"slices"
	"testing"

	"paceline/api"
	"paceline/fed"
)

// The kinds of ops.
const (
	step = iota
	flush
	deliver
	tell
	begin
	turn
	report
)

// mixed: 0 and 3 are conservative, 1 and 2 optimistic. All but 0 hear class 0, that 0 sends; 0, 2 and 3 hear class 1, that 1 sends; 1 alone hears class 2, that 2 sends. 0 and 1 answer.
func mixed() api.World {
	return api.World{Parents: []int{-1, -1, -1}, End: 100, Feds: []api.Fed{
		{Look: 2, Start: 3, Pubs: []int{0}, Subs: []int{1}, Init: []api.Out{{Class: 0, Delay: 9, Add: 7}}, Rules: []api.Rule{
			{State: 3, Class: 1, Next: 4, Sends: []api.Out{{Class: 0, Delay: 5, Add: 1}}},
		}},
		{Kind: 1, Look: 3, Pubs: []int{1}, Subs: []int{0, 2}, Rules: []api.Rule{
			{State: 0, Class: 0, Next: 1, Sends: []api.Out{{Class: 1, Delay: 4, Add: 10}}},
			{State: 0, Class: 2, Next: 2, Sends: []api.Out{{Class: 1, Delay: 3, Add: 20}}},
		}},
		{Kind: 1, Look: 1, Start: 5, Pubs: []int{2}, Subs: []int{0, 1}, Init: []api.Out{{Class: 2, Delay: 6}, {Class: 2, Delay: 8, Add: 999}}},
		{Look: 30, Start: 1, Subs: []int{0, 1}},
	}}
}

// pair: 0 sends 1 something at time 3; each, of its kind, answers what it hears 2 later.
func pair(end int, kinds ...int) api.World {
	f := api.Fed{Look: 2, Pubs: []int{0}, Subs: []int{0}, Rules: []api.Rule{
		{State: 0, Class: 0, Next: 0, Sends: []api.Out{{Class: 0, Delay: 2, Add: 1}}},
	}}
	w := copied(api.World{Parents: []int{-1}, End: end, Feds: []api.Fed{f, f}})
	w.Feds[0].Init = []api.Out{{Class: 0, Delay: 3}}
	w.Feds[0].Kind, w.Feds[1].Kind = kinds[0], kinds[1]
	return w
}

// heard is a pair and a federate of that kind that hears both, and looks far ahead.
func heard(end, first, second, third int) api.World {
	w := pair(end, first, second)
	w.Feds = append(w.Feds, api.Fed{Kind: third, Look: 1 << 20, Subs: []int{0}})
	return w
}

// lone is a federation of one federate of that kind, which hears nothing.
func lone(kind int) api.World {
	return api.World{Parents: []int{-1}, End: 9, Feds: []api.Fed{{Kind: kind, Look: 4, Start: 2, Pubs: []int{0}, Subs: []int{0}, Init: []api.Out{{}}}}}
}

// copied is a world that shares nothing with w.
func copied(w api.World) api.World {
	w.Parents = slices.Clone(w.Parents)
	w.Feds = slices.Clone(w.Feds)
	for f := range w.Feds {
		x := &w.Feds[f]
		x.Pubs, x.Subs, x.Init = slices.Clone(x.Pubs), slices.Clone(x.Subs), slices.Clone(x.Init)
		x.Rules = slices.Clone(x.Rules)
		for r := range x.Rules {
			x.Rules[r].Sends = slices.Clone(x.Rules[r].Sends)
		}
	}
	return w
}

// message puts one together.
func message(at, from, seq, to, class, body int) api.Msg {
	return api.Msg{Key: api.Key{T: at, From: from, Seq: seq}, To: to, Class: class, Body: body}
}

// plain is an item that is a message, anti one that takes it back, bound one that is a bound.
func plain(m api.Msg) api.Item { return api.Item{Kind: api.Plain, Msg: m} }

func anti(m api.Msg) api.Item { return api.Item{Kind: api.Anti, Msg: m} }

func bound(t, to int) api.Item {
	return api.Item{Kind: api.Bound, Msg: api.Msg{Key: api.Key{T: t}, To: to}}
}

// made is a kernel of w, which may be.
func made(t *testing.T, w api.World, room int) *fed.Kernel {
	t.Helper()
	k, e := fed.New(w, room)
	if k == nil || e != api.OK {
		t.Fatalf("New(%v, %d): %v, %d", w, room, k, e)
	}
	return k
}

// told is all that a kernel tells without a change, of federates that there are and of some that there are not.
type told struct {
	value  int
	quiet  bool
	states [api.MaxFeds + 2]int
	logs   [api.MaxFeds + 2][]api.Done
	outs   [api.MaxFeds + 2][]api.Item
}

func tells(k *fed.Kernel) told {
	a := told{value: k.Value(), quiet: k.Quiet()}
	for i := range a.states {
		f := i - 1
		a.states[i], a.logs[i], a.outs[i] = k.State(f), k.Log(f), k.Out(f)
	}
	return a
}

func (a told) same(b told) bool {
	for i := range a.states {
		if !slices.Equal(a.logs[i], b.logs[i]) || !slices.Equal(a.outs[i], b.outs[i]) {
			return false
		}
	}
	return a.value == b.value && a.quiet == b.quiet && a.states == b.states
}

// does: k does these, one behind the other.
func does(t *testing.T, k *fed.Kernel, ops ...fed.Op) {
	t.Helper()
	for _, o := range ops {
		if e := k.Do(o); e != api.OK {
			t.Errorf("Do(%v): %d", o, e)
		}
	}
}

// refuses: k answers that error to each of these, and stays as it was.
func refuses(t *testing.T, k *fed.Kernel, want api.Errno, ops ...fed.Op) {
	t.Helper()
	for _, o := range ops {
		was := tells(k)
		if e := k.Do(o); e != want {
			t.Errorf("Do(%v): %d, not %d", o, e, want)
		}
		if is := tells(k); !is.same(was) {
			t.Errorf("Do(%v) was refused: %v, and was %v", o, is, was)
		}
	}
}

// out: f's outbox has just these items.
func out(t *testing.T, k *fed.Kernel, f int, want ...api.Item) {
	t.Helper()
	if l := k.Out(f); !slices.Equal(l, want) {
		t.Errorf("Out(%d): %v, not %v", f, l, want)
	}
}

// log: f has taken just these for good, and is in that state.
func log(t *testing.T, k *fed.Kernel, f, state int, want ...api.Done) {
	t.Helper()
	if l := k.Log(f); !slices.Equal(l, want) {
		t.Errorf("Log(%d): %v, not %v", f, l, want)
	}
	if s := k.State(f); s != state {
		t.Errorf("State(%d): %d, not %d", f, s, state)
	}
}

// value: the common time is that.
func value(t *testing.T, k *fed.Kernel, want int) {
	t.Helper()
	if v := k.Value(); v != want {
		t.Errorf("Value: %d, not %d", v, want)
	}
}

// quiet: k is so, or not.
func quiet(t *testing.T, k *fed.Kernel, want bool) {
	t.Helper()
	if is := k.Quiet(); is != want {
		t.Errorf("Quiet: %v, not %v", is, want)
	}
}

// of is the same op of each of these federates.
func of(kind int, feds ...int) []fed.Op {
	var ops []fed.Op
	for _, f := range feds {
		ops = append(ops, fed.Op{Kind: kind, A: f})
	}
	return ops
}

// from is a delivery.
func from(a, b int) fed.Op { return fed.Op{Kind: deliver, A: a, B: b} }

// sends lets the first item of a's outbox go all the way to b.
func sends(t *testing.T, k *fed.Kernel, a, b int) {
	t.Helper()
	does(t, k, fed.Op{Kind: flush, A: a}, from(a, b))
}

// round is a whole round of these, which are all the optimistic ones.
func round(t *testing.T, k *fed.Kernel, feds ...int) {
	t.Helper()
	does(t, k, fed.Op{Kind: begin})
	does(t, k, of(turn, feds...)...)
	does(t, k, of(report, feds...)...)
}

// P17.1: config.Check's error first, then link.New's, and no kernel.
func TestNewRefuses(t *testing.T) {
	wrong := func(change func(w *api.World)) api.World {
		w := mixed()
		change(&w)
		return w
	}
	for i, c := range []struct {
		w    api.World
		room int
		want api.Errno
	}{
		{api.World{}, 1, api.ErrTree},
		{api.World{Parents: []int{-1}}, 1, api.ErrArg},
		{wrong(func(w *api.World) { w.Parents[0] = 7 }), 1, api.ErrTree},
		{wrong(func(w *api.World) { w.End = -1 }), 1, api.ErrArg},
		{wrong(func(w *api.World) { w.Feds = slices.Repeat(w.Feds, 3) }), 1, api.ErrArg},
		{wrong(func(w *api.World) { w.Feds[3].Kind = 2 }), 1, api.ErrArg},
		{wrong(func(w *api.World) { w.Feds[2].Look = 0 }), 1, api.ErrLook},
		{wrong(func(w *api.World) { w.Feds[1].Look = 4 }), 1, api.ErrLook},
		{wrong(func(w *api.World) { w.Feds[1].Start = api.MaxState }), 1, api.ErrRule},
		{wrong(func(w *api.World) { w.Feds[2].Pubs = nil }), 1, api.ErrInit},
		{wrong(func(w *api.World) { w.Feds[3].Subs = []int{1, 1} }), 1, api.ErrClass},
		{wrong(func(w *api.World) { w.Feds[3].Subs = []int{1, 1} }), 0, api.ErrClass},
		{api.World{}, math.MinInt, api.ErrTree},
		{mixed(), 0, api.ErrArg},
		{mixed(), -1, api.ErrArg},
		{mixed(), api.MaxLink + 1, api.ErrArg},
		{mixed(), math.MinInt, api.ErrArg},
		{mixed(), math.MaxInt, api.ErrArg},
	} {
		if k, e := fed.New(c.w, c.room); k != nil || e != c.want {
			t.Errorf("%d: New: %v, %d, not %d", i, k, e, c.want)
		}
	}
}

// P17.1: at first the outboxes have the first messages, each that of who sends it, in their order; nothing was taken.
func TestNewKernel(t *testing.T) {
	for _, room := range []int{1, 5, api.MaxLink} {
		k := made(t, mixed(), room)
		out(t, k, 0, plain(message(9, 0, 0, 1, 0, 7)), plain(message(9, 0, 0, 2, 0, 7)), plain(message(9, 0, 0, 3, 0, 7)))
		out(t, k, 1)
		out(t, k, 2, plain(message(6, 2, 0, 1, 2, 0)), plain(message(8, 2, 1, 1, 2, 999)))
		out(t, k, 3)
		for f, state := range []int{3, 0, 5, 1} {
			log(t, k, f, state)
		}
		value(t, k, 0)
		quiet(t, k, false)
	}
	for kind := range 2 {
		k := made(t, lone(kind), 1)
		out(t, k, 0)
		log(t, k, 0, 2)
		quiet(t, k, true)
	}
}

// P17.1: each link has room for room items, and no link takes the room of another one.
func TestRoom(t *testing.T) {
	for room := 1; room <= api.MaxLink; room++ {
		k := made(t, heard(1000, 1, 1, 1), room)
		// What goes to 2 stays on the links.
		for n := range 2 * room {
			f := n % 2
			if n > 0 {
				does(t, k, of(step, f)...)
			}
			sends(t, k, f, 1-f)
			does(t, k, of(flush, f)...)
		}
		for f := range 2 {
			does(t, k, of(step, f)...)
			sends(t, k, f, 1-f)
			refuses(t, k, api.ErrFull, of(flush, f, f)...)
			does(t, k, from(f, 2))
			does(t, k, of(flush, f)...)
			out(t, k, f)
		}
	}
}

// P17.1, P17.2: the participants of the cut are the optimistic federates, whatever numbers they have; of none there is no cut.
func TestParticipants(t *testing.T) {
	for kinds := range 1 << 5 {
		w := api.World{Parents: []int{-1}, End: 9}
		var fast, slow []int
		for f := range 5 {
			kind := kinds >> f & 1
			w.Feds = append(w.Feds, api.Fed{Kind: kind, Look: 1 + f})
			if kind == 1 {
				fast = append(fast, f)
			} else {
				slow = append(slow, f)
			}
		}
		k := made(t, w, 1)
		refuses(t, k, api.ErrArg, of(turn, slow...)...)
		refuses(t, k, api.ErrArg, of(report, slow...)...)
		value(t, k, 0)
		if len(fast) == 0 {
			refuses(t, k, api.ErrIdle, of(begin, 0, -1)...)
			continue
		}
		refuses(t, k, api.ErrOrder, of(turn, fast...)...)
		does(t, k, of(begin, 0)...)
		refuses(t, k, api.ErrOrder, of(begin, 0)...)
		for _, f := range fast {
			refuses(t, k, api.ErrOrder, of(report, fast...)...)
			does(t, k, of(turn, f)...)
			refuses(t, k, api.ErrOrder, of(turn, f)...)
		}
		refuses(t, k, api.ErrArg, of(report, slow...)...)
		for _, f := range fast {
			value(t, k, 0)
			does(t, k, of(report, f)...)
			refuses(t, k, api.ErrOrder, of(report, f)...)
		}
		// Who is conservative has told nothing; if there is no such one, all times are past.
		if len(slow) > 0 {
			value(t, k, 0)
		} else {
			value(t, k, api.Inf)
		}
		refuses(t, k, api.ErrOrder, of(turn, fast...)...)
		does(t, k, of(begin, 0)...)
	}
}

// P17.2: ErrArg first, if a federate that the kind asks for is none, or the kind is none; of the others nothing is asked.
func TestWrongOps(t *testing.T) {
	nobody := []int{-1, 4, 5, api.MaxFeds, math.MinInt, math.MaxInt}
	for _, k := range []*fed.Kernel{made(t, mixed(), 1), made(t, pair(20, 0, 0), 2)} {
		for _, f := range nobody {
			for _, kind := range []int{step, flush, deliver, tell, turn, report} {
				refuses(t, k, api.ErrArg, fed.Op{Kind: kind, A: f}, fed.Op{Kind: kind, A: f, B: f})
			}
			refuses(t, k, api.ErrArg, from(0, f), from(1, f))
		}
		for _, kind := range []int{-1, 7, 8, math.MinInt, math.MaxInt} {
			refuses(t, k, api.ErrArg, fed.Op{Kind: kind}, fed.Op{Kind: kind, A: 1, B: 0}, fed.Op{Kind: kind, A: -1})
		}
	}
	for _, f := range nobody {
		k := made(t, mixed(), 1)
		does(t, k, fed.Op{Kind: flush, A: 2, B: f}, from(2, 1), fed.Op{Kind: step, A: 1, B: f})
		does(t, k, fed.Op{Kind: tell, A: 3, B: f}, fed.Op{Kind: begin, A: f, B: f})
		does(t, k, fed.Op{Kind: turn, A: 1, B: f}, fed.Op{Kind: turn, A: 2, B: f}, fed.Op{Kind: report, A: 2, B: f})
	}
}

// P17.2, a step: ErrFull first, if the outbox has anything; then the node's error.
func TestStepRefused(t *testing.T) {
	k := made(t, mixed(), 4)
	refuses(t, k, api.ErrFull, of(step, 0, 2)...)
	refuses(t, k, api.ErrIdle, of(step, 1, 3)...)
	does(t, k, of(tell, 1, 3)...)
	refuses(t, k, api.ErrFull, of(step, 1, 3)...)
	// What is not safe is not taken by who is conservative.
	does(t, k, of(flush, 0, 0, 0)...)
	does(t, k, from(0, 3))
	does(t, k, of(flush, 3, 3, 3)...)
	refuses(t, k, api.ErrIdle, of(step, 3)...)
}

// P17.2, a step of a conservative federate: all that it sends comes to its outbox.
func TestStepConservative(t *testing.T) {
	k := made(t, heard(20, 0, 0, 1), 4)
	does(t, k, of(flush, 0, 0)...)
	does(t, k, from(0, 1))
	refuses(t, k, api.ErrIdle, of(step, 1)...)
	does(t, k, of(tell, 0, 2)...)
	does(t, k, of(flush, 0, 2, 2)...)
	does(t, k, from(0, 1))
	refuses(t, k, api.ErrIdle, of(step, 1)...)
	does(t, k, from(2, 1), from(2, 0))
	refuses(t, k, api.ErrIdle, of(step, 1)...)
	does(t, k, of(tell, 1)...)
	does(t, k, of(flush, 1, 0, 1)...)
	does(t, k, from(1, 0))
	does(t, k, of(tell, 0)...)
	does(t, k, of(flush, 0)...)
	does(t, k, from(0, 1))
	log(t, k, 1, 0)
	does(t, k, of(step, 1)...)
	log(t, k, 1, 0, api.Done{Msg: message(3, 0, 0, 1, 0, 0)})
	out(t, k, 1, plain(message(5, 1, 0, 0, 0, 1)), plain(message(5, 1, 0, 2, 0, 1)))
	value(t, k, 0)
}

// P17.2, a step of an optimistic federate: what goes to optimistic ones comes to its outbox, the rest is held; nothing is for good.
func TestStepOptimistic(t *testing.T) {
	k := made(t, mixed(), 4)
	sends(t, k, 2, 1)
	does(t, k, of(step, 1)...)
	log(t, k, 1, 2)
	out(t, k, 1, plain(message(9, 1, 0, 2, 1, 20)))
}

// P17.2, a step: an optimistic federate that has no room for one more to be undone.
func TestStepWithoutRoom(t *testing.T) {
	k := made(t, pair(1000, 1, 1), 1)
	for n := range 2 * api.MaxQueue {
		sends(t, k, n%2, 1-n%2)
		does(t, k, of(step, 1-n%2)...)
	}
	sends(t, k, 0, 1)
	refuses(t, k, api.ErrFull, of(step, 1)...)
	out(t, k, 1)
	round(t, k, 0, 1)
	does(t, k, of(step, 1)...)
	if len(k.Log(0)) != api.MaxQueue || len(k.Log(1)) != api.MaxQueue {
		t.Errorf("%d, %d were taken for good", len(k.Log(0)), len(k.Log(1)))
	}
}

// P17.2, a flush: the first of the outbox goes to whom it is to; ErrIdle, if there is none; the link's error, if that has no room.
func TestFlush(t *testing.T) {
	k := made(t, mixed(), 1)
	refuses(t, k, api.ErrIdle, of(flush, 1, 3)...)
	does(t, k, of(flush, 0)...)
	out(t, k, 0, plain(message(9, 0, 0, 2, 0, 7)), plain(message(9, 0, 0, 3, 0, 7)))
	refuses(t, k, api.ErrIdle, from(0, 2), from(0, 3), from(1, 0))
	does(t, k, of(flush, 0)...)
	does(t, k, from(0, 2), from(0, 1))
	refuses(t, k, api.ErrIdle, from(0, 2), from(0, 1))
	does(t, k, of(flush, 2)...)
	refuses(t, k, api.ErrFull, of(flush, 2)...)
	out(t, k, 2, plain(message(8, 2, 1, 1, 2, 999)))
	does(t, k, of(flush, 0)...)
	out(t, k, 0)
	refuses(t, k, api.ErrIdle, of(flush, 0)...)
}

// P17.2, W4: what the link refused was not sent: the cut waits for nothing that does not come.
func TestFlushRefusedIsNotCounted(t *testing.T) {
	k := made(t, mixed(), 1)
	does(t, k, of(flush, 2)...)
	refuses(t, k, api.ErrFull, of(flush, 2, 2, 2)...)
	does(t, k, of(begin, 0)...)
	does(t, k, of(turn, 2, 1)...)
	// These would lower what the round comes to, had they been sent.
	refuses(t, k, api.ErrFull, of(flush, 2, 2)...)
	refuses(t, k, api.ErrIdle, of(report, 1, 2)...)
	does(t, k, from(2, 1))
	does(t, k, of(report, 1, 2)...)
	does(t, k, of(begin, 0)...)
}

// P17.2, flush and delivery: the cut counts what goes between optimistic federates, by its colour, till it comes; and only that.
func TestCounted(t *testing.T) {
	k := made(t, mixed(), 4)
	// From a conservative one, to a conservative one, a bound: not counted.
	does(t, k, of(flush, 0, 0, 0)...)
	does(t, k, of(tell, 1)...)
	does(t, k, of(flush, 1)...)
	round(t, k, 1, 2)
	value(t, k, 0)
	// Sent ahead of the turn: it must have come.
	does(t, k, of(flush, 2)...)
	does(t, k, of(begin, 0)...)
	does(t, k, of(turn, 1, 2)...)
	refuses(t, k, api.ErrIdle, of(report, 1, 2)...)
	// Sent behind it: it need not.
	does(t, k, of(flush, 2)...)
	refuses(t, k, api.ErrIdle, of(report, 1, 2)...)
	does(t, k, from(2, 1))
	does(t, k, of(report, 1, 2)...)
	// That of the round before has the colour now that is waited for.
	does(t, k, of(begin, 0)...)
	does(t, k, of(turn, 1)...)
	refuses(t, k, api.ErrOrder, of(report, 1, 2)...)
	does(t, k, of(turn, 2)...)
	refuses(t, k, api.ErrIdle, of(report, 1, 2)...)
	does(t, k, from(2, 1))
	does(t, k, of(report, 2, 1)...)
	value(t, k, 0)
}

// fast: three optimistic federates. 1 hears at 9 of 0, at 5 of 2, and answers 2 later, to both, of what state it is in.
func fast() api.World {
	return api.World{Parents: []int{-1, -1}, End: 50, Feds: []api.Fed{
		{Kind: 1, Look: 1, Pubs: []int{0}, Subs: []int{1}, Init: []api.Out{{Class: 0, Delay: 9}}},
		{Kind: 1, Look: 2, Pubs: []int{1}, Subs: []int{0}, Rules: []api.Rule{
			{State: 0, Class: 0, Next: 1, Sends: []api.Out{{Class: 1, Delay: 2, Add: 1}}},
			{State: 1, Class: 0, Next: 0, Sends: []api.Out{{Class: 1, Delay: 4, Add: 2}}},
		}},
		{Kind: 1, Look: 1, Pubs: []int{0}, Subs: []int{1}, Init: []api.Out{{Class: 0, Delay: 5}}},
	}}
}

// P17.2, a delivery: what comes too late makes an optimistic one go back: what takes back what it sent comes to the end of its outbox.
func TestDeliveryUndoes(t *testing.T) {
	k := made(t, fast(), 2)
	sends(t, k, 0, 1)
	does(t, k, of(step, 1)...)
	to0, to2 := message(11, 1, 0, 0, 1, 1), message(11, 1, 0, 2, 1, 1)
	out(t, k, 1, plain(to0), plain(to2))
	sends(t, k, 1, 0)
	does(t, k, of(flush, 2)...)
	refuses(t, k, api.ErrIdle, from(2, 0), from(1, 2), from(0, 1))
	does(t, k, from(2, 1))
	out(t, k, 1, plain(to2), anti(to0), anti(to2))
	refuses(t, k, api.ErrFull, of(step, 1)...)
	does(t, k, of(flush, 1, 1, 1)...)
	does(t, k, of(step, 1)...)
	out(t, k, 1, plain(message(7, 1, 0, 0, 1, 1)), plain(message(7, 1, 0, 2, 1, 1)))
	does(t, k, from(1, 0), from(1, 2), from(1, 2))
	does(t, k, of(flush, 1, 1)...)
	does(t, k, of(step, 1)...)
	out(t, k, 1, plain(message(13, 1, 1, 0, 1, 2)), plain(message(13, 1, 1, 2, 1, 2)))
	does(t, k, of(flush, 1, 1)...)
	for _, f := range []int{0, 2} {
		does(t, k, from(1, f), from(1, f))
		does(t, k, of(step, f, f)...)
		refuses(t, k, api.ErrIdle, of(step, f)...)
	}
	quiet(t, k, false)
	round(t, k, 0, 1, 2)
	quiet(t, k, true)
	log(t, k, 0, 0, api.Done{Msg: message(7, 1, 0, 0, 1, 1)}, api.Done{Msg: message(13, 1, 1, 0, 1, 2)})
	log(t, k, 1, 0, api.Done{Msg: message(5, 2, 0, 1, 0, 0), State: 1}, api.Done{Msg: message(9, 0, 0, 1, 0, 0)})
	log(t, k, 2, 0, api.Done{Msg: message(7, 1, 0, 2, 1, 1)}, api.Done{Msg: message(13, 1, 1, 2, 1, 2)})
}

// chain: four optimistic federates. What 0 sends 1 at 9 leads to 11 at 2, and to 13 at 3; but not, if 1 has taken what 3 sends it at 5.
func chain() api.World {
	return api.World{Parents: []int{-1, -1, -1, -1}, End: 50, Feds: []api.Fed{
		{Kind: 1, Look: 1, Pubs: []int{0}, Init: []api.Out{{Class: 0, Delay: 9}}},
		{Kind: 1, Look: 2, Pubs: []int{1}, Subs: []int{0, 3}, Rules: []api.Rule{
			{State: 0, Class: 0, Next: 1, Sends: []api.Out{{Class: 1, Delay: 2}}},
			{State: 0, Class: 3, Next: 2},
		}},
		{Kind: 1, Look: 2, Pubs: []int{2}, Subs: []int{1}, Rules: []api.Rule{{State: 0, Class: 1, Next: 1, Sends: []api.Out{{Class: 2, Delay: 2}}}}},
		{Kind: 1, Look: 1, Pubs: []int{3}, Subs: []int{2}, Init: []api.Out{{Class: 3, Delay: 5}}},
	}}
}

// takenBack is a kernel of chain in which nothing waits, and 2 is to take back what it sent at 13, which 3 has taken.
func takenBack(t *testing.T) *fed.Kernel {
	t.Helper()
	k := made(t, chain(), 1)
	sends(t, k, 0, 1)
	does(t, k, of(step, 1)...)
	sends(t, k, 1, 2)
	does(t, k, of(step, 2)...)
	sends(t, k, 2, 3)
	sends(t, k, 3, 1)
	does(t, k, of(step, 3)...)
	out(t, k, 1, anti(message(11, 1, 0, 2, 1, 0)))
	sends(t, k, 1, 2)
	does(t, k, of(step, 1, 1)...)
	out(t, k, 2, anti(message(13, 2, 0, 3, 2, 0)))
	for f, state := range []int{0, 2, 0, 0} {
		log(t, k, f, state)
	}
	return k
}

// P17.2: what takes a message back is counted, and its time is reported, as those of messages are.
func TestAntiMessagesCount(t *testing.T) {
	all := []int{0, 1, 2, 3}
	// In the outbox.
	k := takenBack(t)
	round(t, k, all...)
	value(t, k, 13)
	log(t, k, 1, 2, api.Done{Msg: message(5, 3, 0, 1, 3, 0), State: 2}, api.Done{Msg: message(9, 0, 0, 1, 0, 0), State: 2})
	quiet(t, k, false)
	does(t, k, of(flush, 2)...)
	quiet(t, k, false)
	does(t, k, from(2, 3))
	quiet(t, k, true)
	// On its way, of the new colour.
	k = takenBack(t)
	does(t, k, of(begin, 0)...)
	does(t, k, of(turn, 2)...)
	does(t, k, of(flush, 2)...)
	does(t, k, of(turn, 0, 1, 3)...)
	does(t, k, of(report, all...)...)
	value(t, k, 13)
	does(t, k, from(2, 3))
	quiet(t, k, true)
	// On its way, of the old one.
	k = takenBack(t)
	does(t, k, of(begin, 0)...)
	does(t, k, of(flush, 2)...)
	does(t, k, of(turn, all...)...)
	refuses(t, k, api.ErrIdle, of(report, all...)...)
	does(t, k, from(2, 3))
	does(t, k, of(report, all...)...)
	value(t, k, api.Inf)
	quiet(t, k, true)
}

// P17.2, a delivery: the node's error, and what was to be heard stays on its link, in its place.
func TestDeliveryRefused(t *testing.T) {
	for kind := range 2 {
		k := made(t, heard(1000, 0, 0, kind), 2)
		refuses(t, k, api.ErrIdle, from(0, 2), from(0, 0), from(2, 2), from(1, 0))
		does(t, k, of(tell, 2)...)
		sends(t, k, 2, 0)
		sends(t, k, 2, 1)
		// 2 takes nothing: all that comes to it waits.
		waits, last := 0, -1
		for n := 0; last < 0 && n < 5000; n++ {
			f := n / 3 % 2
			for _, i := range k.Out(f) {
				does(t, k, of(flush, f)...)
				if i.Msg.To == 2 && i.Kind == api.Plain {
					waits++
				}
				if waits > api.MaxQueue {
					last = f
					break
				}
				does(t, k, from(f, i.Msg.To))
			}
			k.Do(fed.Op{Kind: []int{step, tell, tell}[n%3], A: f})
		}
		refuses(t, k, api.ErrFull, from(last, 2), from(last, 2))
		does(t, k, of(step, 2)...)
		does(t, k, from(last, 2))
		refuses(t, k, api.ErrIdle, from(last, 2))
	}
}

// P17.2, telling: a conservative federate tells each other one, by rising numbers, once all that it sent has gone; ErrIdle, if it is nothing new.
func TestTellConservative(t *testing.T) {
	k := made(t, mixed(), 4)
	refuses(t, k, api.ErrFull, of(tell, 0)...)
	does(t, k, of(flush, 0, 0)...)
	refuses(t, k, api.ErrFull, of(tell, 0)...)
	does(t, k, of(flush, 0)...)
	does(t, k, of(tell, 0)...)
	out(t, k, 0, bound(2, 1), bound(2, 2), bound(2, 3))
	refuses(t, k, api.ErrFull, of(tell, 0)...)
	does(t, k, of(flush, 0, 0, 0)...)
	refuses(t, k, api.ErrIdle, of(tell, 0, 0)...)
	does(t, k, of(tell, 3)...)
	out(t, k, 3, bound(30, 0), bound(30, 1), bound(30, 2))
	// Of the three others 0 has heard one, then two; then all.
	does(t, k, of(flush, 3, 3, 3)...)
	does(t, k, from(3, 0))
	refuses(t, k, api.ErrIdle, of(tell, 0)...)
	does(t, k, of(tell, 1)...)
	sends(t, k, 1, 0)
	refuses(t, k, api.ErrIdle, of(tell, 0)...)
	does(t, k, of(flush, 2, 2)...)
	does(t, k, of(tell, 2)...)
	sends(t, k, 2, 0)
	does(t, k, of(tell, 0)...)
	out(t, k, 0, bound(3, 1), bound(3, 2), bound(3, 3))
	refuses(t, k, api.ErrIdle, of(tell, 3)...)
}

// P17.2, telling: an optimistic federate tells the conservative ones what it promises, if that is above what it told last.
func TestTellOptimistic(t *testing.T) {
	k := made(t, mixed(), 4)
	refuses(t, k, api.ErrFull, of(tell, 2)...)
	does(t, k, of(tell, 1)...)
	out(t, k, 1, bound(3, 0), bound(3, 3))
	refuses(t, k, api.ErrFull, of(tell, 1)...)
	does(t, k, of(flush, 1, 1)...)
	refuses(t, k, api.ErrIdle, of(tell, 1)...)
	// A round that comes to nothing makes nothing new; one that comes to 2 does.
	round(t, k, 1, 2)
	refuses(t, k, api.ErrIdle, of(tell, 1)...)
	does(t, k, of(flush, 0, 0, 0)...)
	does(t, k, of(tell, 0, 3)...)
	does(t, k, of(flush, 0, 0, 3, 3, 3)...)
	does(t, k, from(0, 1), from(0, 1), from(0, 2), from(0, 2), from(3, 1), from(3, 2))
	round(t, k, 1, 2)
	value(t, k, 2)
	does(t, k, of(tell, 1)...)
	out(t, k, 1, bound(5, 0), bound(5, 3))
	does(t, k, of(flush, 1, 1)...)
	refuses(t, k, api.ErrIdle, of(tell, 1)...)
}

// P17.2, telling: where there is nobody to tell it is told all the same, once.
func TestTellNobody(t *testing.T) {
	for _, w := range []api.World{lone(0), lone(1), fast()} {
		k := made(t, w, 1)
		f := len(w.Feds) / 2
		does(t, k, of(tell, f)...)
		out(t, k, f)
		refuses(t, k, api.ErrIdle, of(tell, f)...)
	}
}

// P17.2, a report: the least of how far the node has come, and of what is to go to optimistic federates.
func TestReport(t *testing.T) {
	// 0 waits for nobody: it has come as far as 1, that told 20; what it sends to 1 does not count, what it sends to 2 does.
	for i, c := range []struct{ toSlow, toFast, want int }{{7, 15, 15}, {15, 7, 7}, {30, 25, 20}, {0, 20, 20}, {20, 0, 0}} {
		k := made(t, api.World{Parents: []int{-1, -1}, End: 50, Feds: []api.Fed{
			{Kind: 1, Look: 1, Pubs: []int{0, 1}, Init: []api.Out{{Class: 0, Delay: c.toSlow}, {Class: 1, Delay: c.toFast}}},
			{Look: 20, Subs: []int{0}},
			{Kind: 1, Look: 1, Subs: []int{1}},
		}}, 1)
		does(t, k, of(tell, 1)...)
		sends(t, k, 1, 0)
		sends(t, k, 1, 2)
		round(t, k, 0, 2)
		if k.Value() != c.want {
			t.Errorf("%d: the round came to %d, not %d", i, k.Value(), c.want)
		}
		out(t, k, 0, plain(message(c.toSlow, 0, 0, 1, 0, 0)), plain(message(c.toFast, 0, 1, 2, 1, 0)))
	}
}

// P17.2, a report: a bound that is to go does not count, whatever its time is.
func TestReportNotBounds(t *testing.T) {
	k := made(t, api.World{Parents: []int{-1}, End: 50, Feds: []api.Fed{{Look: 20}, {Kind: 1, Look: 1}}}, 1)
	does(t, k, of(tell, 0, 1)...)
	sends(t, k, 0, 1)
	out(t, k, 1, bound(1, 0))
	round(t, k, 1)
	value(t, k, 20)
	out(t, k, 1, bound(1, 0))
}

// P17.2, a report: what has the new colour counts by its time, if it has not come; if it has, by what waits.
func TestRoundWhileUnderWay(t *testing.T) {
	for _, comes := range []bool{false, true} {
		k := made(t, fast(), 2)
		sends(t, k, 0, 1)
		does(t, k, of(step, 1)...)
		sends(t, k, 1, 0)
		sends(t, k, 1, 2)
		does(t, k, of(begin, 0)...)
		does(t, k, of(turn, 2, 0)...)
		does(t, k, of(flush, 2)...)
		does(t, k, of(turn, 1)...)
		does(t, k, of(report, 1)...)
		if comes {
			does(t, k, from(2, 1))
		}
		does(t, k, of(report, 0, 2)...)
		value(t, k, 5)
	}
}

// settled: 2 tells 1 something at 5, 6 and 7, which answers 1 later to 2 and to 0, that is conservative.
func settled() api.World {
	w := api.World{Parents: []int{-1, -1}, End: 50, Feds: []api.Fed{
		{Look: 7, Subs: []int{1}},
		{Kind: 1, Look: 1, Pubs: []int{1}, Subs: []int{0}},
		{Kind: 1, Look: 2, Pubs: []int{0}, Subs: []int{1}, Init: []api.Out{{Delay: 5}, {Delay: 6}, {Delay: 7}}, Rules: []api.Rule{{State: 0, Class: 1, Next: 1}}},
	}}
	for state := range 3 {
		w.Feds[1].Rules = append(w.Feds[1].Rules, api.Rule{State: state, Next: state + 1, Sends: []api.Out{{Class: 1, Delay: 1, Add: 1}}})
	}
	return w
}

// P17.2, a report: when the round is over all optimistic federates settle what is below the value; what they held goes to the end of their outboxes.
func TestCommit(t *testing.T) {
	k := made(t, settled(), 4)
	asks := func(n int) api.Msg { return message(5+n, 2, n, 1, 0, 0) }
	answers := func(n, to int) api.Msg { return message(6+n, 1, n, to, 1, 1) }
	for range 3 {
		sends(t, k, 2, 1)
	}
	for n := range 3 {
		does(t, k, of(step, 1)...)
		out(t, k, 1, plain(answers(n, 2)))
		if n < 2 {
			sends(t, k, 1, 2)
			does(t, k, of(step, 2)...)
		}
	}
	log(t, k, 1, 3)
	log(t, k, 2, 1)
	does(t, k, of(tell, 0)...)
	sends(t, k, 0, 1)
	sends(t, k, 0, 2)
	does(t, k, of(begin, 0)...)
	does(t, k, of(turn, 2, 1)...)
	does(t, k, of(report, 2)...)
	value(t, k, 0)
	log(t, k, 2, 1)
	does(t, k, of(report, 1)...)
	value(t, k, 7)
	log(t, k, 1, 3, api.Done{Msg: asks(0), State: 1}, api.Done{Msg: asks(1), State: 2})
	log(t, k, 2, 1, api.Done{Msg: answers(0, 2), State: 1})
	out(t, k, 0)
	out(t, k, 1, plain(answers(2, 2)), plain(answers(0, 0)), plain(answers(1, 0)))
	out(t, k, 2)
	// What was held goes ahead of what is told from now on.
	refuses(t, k, api.ErrFull, of(tell, 1)...)
	sends(t, k, 1, 2)
	does(t, k, of(flush, 1, 1)...)
	// Nor does the cut wait for it, as who hears it is conservative.
	round(t, k, 1, 2)
	value(t, k, 7)
	does(t, k, of(tell, 1, 2)...)
	out(t, k, 1, bound(8, 0))
	out(t, k, 2, bound(9, 0))
	does(t, k, of(flush, 1, 2)...)
	does(t, k, from(1, 0), from(1, 0), from(2, 0))
	refuses(t, k, api.ErrIdle, of(step, 0)...)
	does(t, k, from(1, 0))
	does(t, k, of(step, 0, 0)...)
	log(t, k, 0, 0, api.Done{Msg: answers(0, 0)}, api.Done{Msg: answers(1, 0)})
}

// P17.3: of no federate there is no log, no outbox, and the state is -1.
func TestNoFederate(t *testing.T) {
	for _, w := range []api.World{mixed(), lone(0), lone(1)} {
		k := made(t, w, 1)
		for _, f := range []int{-1, len(w.Feds), api.MaxFeds, math.MinInt, math.MaxInt} {
			log(t, k, f, -1)
			out(t, k, f)
		}
	}
}

// P17.3: no message may be in an outbox, on a link, or wait below the end; what was taken must be settled. Bounds are none of it.
func TestQuiet(t *testing.T) {
	for kinds := range 4 {
		one, two := kinds&1, kinds>>1
		// A message at the end is not taken: it is quiet when that waits.
		k := made(t, pair(3, one, two), 4)
		quiet(t, k, false)
		does(t, k, of(flush, 0)...)
		quiet(t, k, false)
		does(t, k, from(0, 1))
		quiet(t, k, true)
		refuses(t, k, api.ErrIdle, of(step, 1)...)
		does(t, k, of(tell, 0, 1)...)
		quiet(t, k, true)
		for f := range 2 {
			for range k.Out(f) {
				does(t, k, of(flush, f)...)
				quiet(t, k, true)
			}
		}
		// One below it is to be taken, and for good.
		k = made(t, pair(4, one, two), 4)
		does(t, k, of(flush, 0)...)
		does(t, k, from(0, 1))
		quiet(t, k, false)
	}
}

// P17.3: what was taken and is not settled, what is to be taken back, what is on its way with either colour: it is not quiet.
func TestNotQuietYet(t *testing.T) {
	k := made(t, pair(5, 1, 1), 1)
	sends(t, k, 0, 1)
	does(t, k, of(step, 1)...)
	sends(t, k, 1, 0)
	quiet(t, k, false)
	round(t, k, 0, 1)
	quiet(t, k, true)

	k = made(t, fast(), 1)
	does(t, k, of(begin, 0)...)
	does(t, k, of(turn, 0, 1, 2)...)
	does(t, k, of(flush, 0)...)
	does(t, k, from(0, 1))
	does(t, k, of(step, 1)...)
	does(t, k, of(flush, 1, 1)...)
	does(t, k, from(1, 0), from(1, 2))
	does(t, k, of(flush, 2)...)
	quiet(t, k, false)
	does(t, k, from(2, 1))
	quiet(t, k, false)
}

// The chapter's example: a conservative federate that waits for the other one's time.
func TestExample(t *testing.T) {
	for kind := range 2 {
		k := made(t, pair(20, kind, 0), 1)
		sends(t, k, 0, 1)
		refuses(t, k, api.ErrIdle, of(step, 1)...)
	}
}
