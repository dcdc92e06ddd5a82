package cmb_test

import (
	"slices"
	"testing"

	"paceline/api"
	"paceline/cmb"
	"paceline/config"
	"paceline/solo"
	"paceline/vtime"
)

// worlds are many federations that may be, of conservative federates alone, which end before that time.
func worlds(t *testing.T, latest int) []api.World {
	t.Helper()
	next := numbers(12)
	all := []api.World{pair(40), alone()}
	for range 150 {
		w := api.World{Parents: make([]int, 1+next(5)), Feds: make([]api.Fed, 1+next(api.MaxFeds)), End: next(latest)}
		for c := range w.Parents {
			w.Parents[c] = next(c+1) - 1
		}
		for f := range w.Feds {
			w.Feds[f] = anyFed(next, len(w.Parents))
		}
		if f, e := config.Check(w); e != api.OK {
			t.Fatalf("Check(%v): %d, %d", w, f, e)
		}
		all = append(all, w)
	}
	return all
}

// pair: 0 sends 1 something at time 3; each answers what it hears 2 later.
func pair(end int) api.World {
	fed := api.Fed{Look: 2, Pubs: []int{0}, Subs: []int{0}, Rules: []api.Rule{
		{State: 0, Class: 0, Next: 0, Sends: []api.Out{{Class: 0, Delay: 2, Add: 1}}},
	}}
	w := copied(api.World{Parents: []int{-1}, End: end, Feds: []api.Fed{fed, fed}})
	w.Feds[0].Init = []api.Out{{Class: 0, Delay: 3}}
	return w
}

// anyFed is a conservative federate that may be, where there are so many classes.
func anyFed(next func(int) int, classes int) api.Fed {
	fed := api.Fed{Look: 1 + next(4), Start: next(3)}
	for c := range classes {
		if next(3) > 0 {
			fed.Pubs = append(fed.Pubs, c)
		}
		if next(3) == 0 {
			fed.Subs = append(fed.Subs, c)
		}
	}
	outs := func(n, least int) []api.Out {
		if len(fed.Pubs) == 0 {
			return nil
		}
		l := make([]api.Out, n)
		for i := range l {
			l[i] = api.Out{Class: fed.Pubs[next(len(fed.Pubs))], Delay: least + next(5), Add: next(api.MaxBody)}
		}
		return l
	}
	for state := range 3 {
		for class := range classes {
			if next(4) > 0 {
				fed.Rules = append(fed.Rules, api.Rule{State: state, Class: class, Next: next(3), Sends: outs(max(0, next(6)-3), fed.Look)})
			}
		}
	}
	fed.Init = outs(next(5), 0)
	return fed
}

// ended is the run of w that is done one behind the other; false, if some node could be without room: more messages than a queue holds go to one federate.
func ended(t *testing.T, w api.World) (*solo.Run, bool) {
	t.Helper()
	r, e := solo.New(w)
	if e != api.OK {
		t.Fatalf("solo.New: %d", e)
	}
	const most = api.MaxFeds * api.MaxQueue
	if r.Steps(most) == most {
		return nil, false
	}
	var to [api.MaxFeds]int
	for _, m := range r.Waiting() {
		to[m.To]++
	}
	for f := range w.Feds {
		if to[f]+len(r.Log(f)) > api.MaxQueue {
			return nil, false
		}
	}
	return r, true
}

// whole is a federation of nodes, with links that keep their order and have room for all.
type whole struct {
	t     *testing.T
	w     api.World
	nodes []*cmb.Node
	links [api.MaxFeds][api.MaxFeds][]api.Item
	told  [api.MaxFeds]int
	last  [api.MaxFeds]api.Key
}

func wholeOf(t *testing.T, w api.World) *whole {
	t.Helper()
	o := &whole{t: t, w: w}
	for f := range w.Feds {
		o.nodes = append(o.nodes, made(t, w, f))
		o.last[f] = api.Key{T: -1}
	}
	for _, m := range config.Starts(w) {
		o.send(m.Key.From, m.To, plain(m))
	}
	return o
}

func (o *whole) send(a, b int, i api.Item) {
	o.links[a][b] = append(o.links[a][b], i)
}

// deliver brings what is first on the link from a to b.
func (o *whole) deliver(a, b int) {
	o.t.Helper()
	if len(o.links[a][b]) > 0 {
		heard(o.t, o.nodes[b], a, o.links[a][b][0], api.OK)
		o.links[a][b] = o.links[a][b][1:]
	}
}

// step lets f take a message, if it can: what it takes comes in order, what it sends is not below what it told.
func (o *whole) step(f int) {
	o.t.Helper()
	if !o.nodes[f].Safe() {
		idle(o.t, o.nodes[f])
		return
	}
	d, l, e := o.nodes[f].Step()
	if e != api.OK || vtime.Cmp(o.last[f], d.Msg.Key) >= 0 || d.Msg.To != f {
		o.t.Errorf("%d takes %v behind %v: %d", f, d, o.last[f], e)
	}
	o.last[f] = d.Msg.Key
	for _, m := range l {
		if m.Key.T < o.told[f] {
			o.t.Errorf("%d sends %v, and told %d", f, m, o.told[f])
		}
		o.send(f, m.To, plain(m))
	}
}

// tell lets f tell all others what is new.
func (o *whole) tell(f int) {
	o.t.Helper()
	at, is := o.nodes[f].Tell()
	if at < o.told[f] || is != (at > o.told[f]) {
		o.t.Errorf("%d tells %d, %v behind %d", f, at, is, o.told[f])
	}
	o.told[f] = at
	for to := range o.nodes {
		if is && to != f {
			o.send(f, to, bound(at))
		}
	}
}

// turn does each thing that can be done once.
func (o *whole) turn() {
	o.t.Helper()
	for f := range o.nodes {
		o.step(f)
		o.tell(f)
		for to := range o.nodes {
			o.deliver(f, to)
		}
	}
}

// begun: what each node has taken is the beginning of what it takes when all is done one behind the other.
func (o *whole) begun(r *solo.Run) bool {
	for f, x := range o.nodes {
		l, want := x.Log(), r.Log(f)
		if len(l) > len(want) || !slices.Equal(l, want[:len(l)]) {
			return false
		}
	}
	return true
}

// done: what each node has taken is just that, and so is its state; what waits below the end is none.
func (o *whole) done(r *solo.Run) bool {
	for f, x := range o.nodes {
		isEarly := func(m api.Msg) bool { return m.Key.T < o.w.End }
		if !slices.Equal(x.Log(), r.Log(f)) || x.State() != r.State(f) || slices.ContainsFunc(x.Waiting(), isEarly) {
			return false
		}
	}
	return true
}

// isPast tells whether nothing below the end can come to any node any more, and nothing waits there.
func (o *whole) isPast() bool {
	return !slices.ContainsFunc(o.nodes, func(x *cmb.Node) bool { return x.Safe() || x.Bound() < o.w.End })
}

// settle takes turns till all are past the end: by each turn the clocks rise, so there are not many of them.
func (o *whole) settle() {
	o.t.Helper()
	for range 5000 {
		if o.isPast() || o.t.Failed() {
			return
		}
		o.turn()
	}
	o.t.Errorf("it does not end: %v", o.w)
}

// P12.5, and the first example of the whole: two that answer one another take at 3, 5, 7 and so on.
func TestTwoThatAnswerOneAnother(t *testing.T) {
	o := wholeOf(t, pair(20))
	o.settle()
	for f, x := range o.nodes {
		for i, d := range x.Log() {
			if want := message(5-2*f+4*i, 1-f, i, f, 0, 1-f+2*i); d.Msg != want {
				t.Errorf("%d takes %v, not %v", f, d.Msg, want)
			}
		}
	}
	if len(o.nodes[0].Log()) != 4 || len(o.nodes[1].Log()) != 5 {
		t.Errorf("%v, %v", o.nodes[0].Log(), o.nodes[1].Log())
	}
}

// P12.5, W1, W2: in turns, all is taken that is taken one behind the other, and then nothing any more.
func TestWholeInTurns(t *testing.T) {
	looked, taken := 0, 0
	for i, w := range worlds(t, 60) {
		r, is := ended(t, w)
		if !is {
			continue
		}
		o := wholeOf(t, w)
		o.settle()
		for range 3 {
			if !o.done(r) {
				t.Fatalf("federation %d: not what is done one behind the other: %v", i, w)
			}
			o.turn()
		}
		looked++
		for f := range w.Feds {
			taken += len(r.Log(f))
		}
	}
	if looked < 60 || taken < 1000 {
		t.Errorf("only %d federations, with %d messages", looked, taken)
	}
}

// P12.5, W1: in whatever order things are done, at each time it is the beginning of that; and in the end all of it.
func TestWholeInAnyOrder(t *testing.T) {
	for i, w := range worlds(t, 60) {
		r, is := ended(t, w)
		if !is {
			continue
		}
		for seed := range 3 {
			o := wholeOf(t, w)
			next := numbers(uint64(100*i + seed))
			for range 600 {
				f := next(len(w.Feds))
				switch next(8) {
				case 0, 1:
					o.step(f)
				case 2:
					o.tell(f)
				default:
					o.deliver(f, next(len(w.Feds)))
				}
				if !o.begun(r) {
					t.Fatalf("federation %d, order %d: not the beginning of what is done one behind the other: %v", i, seed, w)
				}
			}
			o.settle()
			if !o.done(r) {
				t.Fatalf("federation %d, order %d: not what is done one behind the other: %v", i, seed, w)
			}
		}
	}
}

// P12.5: who does not keep to what it told is refused, so that what was taken stays in order.
func TestWhoBreaksAPromise(t *testing.T) {
	x := made(t, three(), 0)
	last := api.Key{T: -1}
	for at := range 30 {
		both(t, x, at)
		heard(t, x, 1, plain(from1(at-1, 100+at)), api.ErrEarly)
		heard(t, x, 2, plain(message(at-1, 2, at, 0, 1, 0)), api.ErrEarly)
		heard(t, x, 1, plain(from1(at, at)), api.OK)
		heard(t, x, 2, plain(message(at, 2, at, 0, 2, 0)), api.OK)
		for x.Safe() {
			d, _, _ := x.Step()
			if vtime.Cmp(last, d.Msg.Key) >= 0 {
				t.Fatalf("%v behind %v", d.Msg.Key, last)
			}
			last = d.Msg.Key
		}
	}
	if len(x.Log()) != 58 {
		t.Errorf("%d were taken", len(x.Log()))
	}
}
