package warp_test

import (
	"slices"
	"testing"

	"paceline/api"
	"paceline/cmb"
	"paceline/config"
	"paceline/solo"
	"paceline/vtime"
	"paceline/warp"
)

// worlds are many federations that may be, of federates of both kinds, which end before that time.
func worlds(t *testing.T, latest int) []api.World {
	t.Helper()
	next := numbers(15)
	var all []api.World
	for kinds := range 4 {
		all = append(all, pair(40, kinds&1, kinds>>1))
	}
	for range 200 {
		w := api.World{Parents: make([]int, 1+next(5)), Feds: make([]api.Fed, 2+next(api.MaxFeds-1)), End: next(latest)}
		for c := range w.Parents {
			w.Parents[c] = next(c+1) - 1
		}
		for f := range w.Feds {
			w.Feds[f] = anyFed(next, len(w.Parents))
		}
		if f, e := config.Check(w); e != api.OK {
			t.Fatalf("Check(%v): %d, %d", w, f, e)
		}
		all = append(all, w)
	}
	return all
}

// pair: 0 sends 1 something at time 3; each, of its kind, answers what it hears 2 later.
func pair(end int, kinds ...int) api.World {
	fed := api.Fed{Look: 2, Pubs: []int{0}, Subs: []int{0}, Rules: []api.Rule{
		{State: 0, Class: 0, Next: 0, Sends: []api.Out{{Class: 0, Delay: 2, Add: 1}}},
	}}
	w := copied(api.World{Parents: []int{-1}, End: end, Feds: []api.Fed{fed, fed}})
	w.Feds[0].Init = []api.Out{{Class: 0, Delay: 3}}
	w.Feds[0].Kind, w.Feds[1].Kind = kinds[0], kinds[1]
	return w
}

// anyFed is a federate that may be, where there are so many classes.
func anyFed(next func(int) int, classes int) api.Fed {
	fed := api.Fed{Kind: next(2), Look: 1 + next(4), Start: next(3)}
	for c := range classes {
		if next(3) > 0 {
			fed.Pubs = append(fed.Pubs, c)
		}
		if next(3) == 0 {
			fed.Subs = append(fed.Subs, c)
		}
	}
	outs := func(n, least int) []api.Out {
		if len(fed.Pubs) == 0 {
			return nil
		}
		l := make([]api.Out, n)
		for i := range l {
			l[i] = api.Out{Class: fed.Pubs[next(len(fed.Pubs))], Delay: least + next(5), Add: next(api.MaxBody)}
		}
		return l
	}
	for state := range 3 {
		for class := range classes {
			if next(4) > 0 {
				fed.Rules = append(fed.Rules, api.Rule{State: state, Class: class, Next: next(3), Sends: outs(max(0, next(6)-3), fed.Look)})
			}
		}
	}
	fed.Init = outs(next(5), 0)
	return fed
}

// ledger is what a node sent and did not take back, and what it let go out for good.
type ledger struct {
	t          *testing.T
	sent, gone []api.Msg
	settled    []api.Done
	antis      int
}

// enter enters what was sent: what is taken back was sent, and was not taken back yet.
func (b *ledger) enter(l []api.Item) {
	b.t.Helper()
	for _, i := range l {
		if i.Kind == api.Plain {
			b.sent = append(b.sent, i.Msg)
			continue
		}
		b.antis++
		at := slices.Index(b.sent, i.Msg)
		if at < 0 {
			b.t.Fatalf("%v is taken back, and was not sent", i)
		}
		b.sent = slices.Delete(b.sent, at, at+1)
	}
}

func (b *ledger) hear(x *warp.Node, from int, i api.Item) {
	b.t.Helper()
	l, e := x.Hear(from, i)
	if e != api.OK {
		b.t.Fatalf("Hear(%d, %v): %d", from, i, e)
	}
	b.enter(l)
}

// step lets x take a message, if there is one.
func (b *ledger) step(x *warp.Node) bool {
	b.t.Helper()
	_, l, e := x.Step()
	b.enter(l)
	return e == api.OK
}

func (b *ledger) commit(x *warp.Node, at int) {
	b.t.Helper()
	promise := x.Promise()
	d, l, e := x.Commit(at)
	if e != api.OK {
		b.t.Fatalf("Commit(%d): %d", at, e)
	}
	for _, m := range l {
		if m.Key.T < promise {
			b.t.Errorf("%v goes out, and %d was promised", m, promise)
		}
	}
	b.settled, b.gone = append(b.settled, d...), append(b.gone, l...)
}

// end lets x take and settle all, when nothing comes any more.
func (b *ledger) end(x *warp.Node, w api.World) {
	b.t.Helper()
	for f, fed := range w.Feds {
		if fed.Kind == 0 {
			b.hear(x, f, bound(api.Inf))
		}
	}
	for b.step(x) {
	}
	b.commit(x, api.Inf)
}

// isAll: what is settled, and what was sent, are just what comes of these messages of federate 0 of w, one behind the other.
func (b *ledger) isAll(x *warp.Node, w api.World, msgs []api.Msg) bool {
	acts, state, _ := walked(w, 0, w.Feds[0].Start, len(w.Feds[0].Init), msgs)
	var want []api.Done
	for _, a := range acts {
		want = append(want, a.done)
	}
	order := func(l []api.Msg) []api.Msg {
		return slices.SortedFunc(slices.Values(l), func(a, b api.Msg) int {
			if a.Key == b.Key {
				return a.To - b.To
			}
			return vtime.Cmp(a.Key, b.Key)
		})
	}
	return slices.Equal(b.settled, want) && slices.Equal(x.Log(), want) && x.State() == state && x.Ahead() == 0 &&
		slices.Equal(b.gone, to(w, 0, acts...)) && slices.Equal(order(b.sent), order(to(w, 1, acts...)))
}

// orders are all orders of n things.
func orders(n int) [][]int {
	if n == 0 {
		return [][]int{nil}
	}
	var all [][]int
	for _, l := range orders(n - 1) {
		for at := range n {
			all = append(all, slices.Insert(slices.Clone(l), at, n-1))
		}
	}
	return all
}

// P15.7: in whatever order a few messages come, and whenever they are taken, it comes to the same.
func TestAFewInAllOrders(t *testing.T) {
	w := four()
	msgs := []api.Msg{from1(5, 0), message(5, 2, 0, 0, 0, 7), from1(6, 1), message(6, 3, 0, 0, 1, 995), message(9, 2, 1, 0, 1, 3)}
	for _, order := range orders(len(msgs)) {
		for steps := range 3 * 3 * 3 * 3 {
			x, b := made(t, w, 0), &ledger{t: t}
			left := steps
			for _, i := range order {
				b.hear(x, msgs[i].Key.From, plain(msgs[i]))
				for range left % 3 {
					b.step(x)
				}
				left /= 3
			}
			b.end(x, w)
			if !b.isAll(x, w, msgs) {
				t.Fatalf("in the order %v, with the steps %d: %+v", order, steps, b)
			}
		}
	}
}

// comers are messages of few times and of all keys that differ, by chance, in no order.
func comers(next func(int) int, many, classes int) []api.Msg {
	var all []api.Msg
	for seq := range many {
		all = append(all, message(next(30), 1+2*next(2), seq, 0, next(classes), next(api.MaxBody)))
	}
	return all
}

// least is the least time of l.
func least(l []api.Msg) int {
	at := api.Inf
	for _, m := range l {
		at = min(at, m.Key.T)
	}
	return at
}

// P15.7: many messages, some of which are taken back; now and then one is taken, now and then all is settled that can be.
func TestManyInAnyOrder(t *testing.T) {
	w, antis, early := four(), 0, 0
	for run := range 600 {
		next := numbers(uint64(run))
		x, b := made(t, w, 0), &ledger{t: t}
		good, wrong := comers(next, 25, 2), comers(next, 12, 2)
		for i := range wrong {
			wrong[i].Key.Seq += 100
		}
		toCome, toGo := slices.Concat(good, wrong), []api.Msg{}
		for len(toCome)+len(toGo) > 0 {
			switch next(6) {
			case 0, 1:
				b.step(x)
			case 2:
				at := min(least(toCome), least(toGo))
				// Who is conservative keeps to what it tells.
				if at > x.Floor() {
					b.hear(x, 2, bound(at))
				}
				b.commit(x, min(at, x.Local()))
			case 3:
				if len(toGo) > 0 {
					at := next(len(toGo))
					b.hear(x, 1, anti(toGo[at]))
					toGo = slices.Delete(toGo, at, at+1)
				}
			default:
				if len(toCome) > 0 {
					at := next(len(toCome))
					m := toCome[at]
					b.hear(x, m.Key.From, plain(m))
					toCome = slices.Delete(toCome, at, at+1)
					if m.Key.Seq >= 100 {
						toGo = append(toGo, m)
					}
				}
			}
		}
		antis, early = antis+b.antis, early+len(b.settled)
		b.end(x, w)
		slices.SortFunc(good, byKey)
		if !b.isAll(x, w, good) {
			t.Fatalf("run %d: %+v", run, b)
		}
	}
	if antis < 2000 || early < 1000 {
		t.Errorf("the runs are too quiet: %d taken back, %d settled early", antis, early)
	}
}

// whole is a federation of nodes of both kinds, with links that keep their order and have room for all.
type whole struct {
	t     *testing.T
	w     api.World
	slow  [api.MaxFeds]*cmb.Node
	fast  [api.MaxFeds]*warp.Node
	links [api.MaxFeds][api.MaxFeds][]api.Item
	told  [api.MaxFeds]int
	value int
	antis int
	// Whether a node was without room.
	full bool
}

func wholeOf(t *testing.T, w api.World) *whole {
	t.Helper()
	o := &whole{t: t, w: w}
	for f, fed := range w.Feds {
		if fed.Kind == 1 {
			o.fast[f] = made(t, w, f)
			continue
		}
		x, e := cmb.New(w, f)
		if e != api.OK {
			t.Fatalf("cmb.New: %d", e)
		}
		o.slow[f] = x
	}
	o.send(config.Starts(w))
	return o
}

func (o *whole) send(l []api.Msg) {
	o.sendItems(items(plain, l))
}

func (o *whole) sendItems(l []api.Item) {
	for _, i := range l {
		from, to := i.Msg.Key.From, i.Msg.To
		o.links[from][to] = append(o.links[from][to], i)
		if i.Kind == api.Anti {
			o.antis++
		}
	}
}

// deliver brings what is first on the link from a to b; without room it stays there.
func (o *whole) deliver(a, b int) {
	o.t.Helper()
	if len(o.links[a][b]) == 0 {
		return
	}
	var sent []api.Item
	var e api.Errno
	if i := o.links[a][b][0]; o.fast[b] != nil {
		sent, e = o.fast[b].Hear(a, i)
	} else {
		e = o.slow[b].Hear(a, i)
	}
	if e == api.ErrFull {
		o.full = true
		return
	}
	if e != api.OK {
		o.t.Errorf("from %d to %d: %v: %d", a, b, o.links[a][b][0], e)
	}
	o.links[a][b] = o.links[a][b][1:]
	o.sendItems(sent)
}

// step lets f take a message, if it can.
func (o *whole) step(f int) {
	if o.fast[f] != nil {
		_, l, e := o.fast[f].Step()
		o.full = o.full || e == api.ErrFull
		o.sendItems(l)
		return
	}
	_, l, _ := o.slow[f].Step()
	o.send(l)
}

// tell lets f tell what it promises to whom it matters.
func (o *whole) tell(f int) {
	var at int
	if o.fast[f] != nil {
		at = o.fast[f].Promise()
	} else {
		at, _ = o.slow[f].Tell()
	}
	if at <= o.told[f] {
		return
	}
	o.told[f] = at
	for to := range o.w.Feds {
		if to != f && (o.slow[f] != nil || o.slow[to] != nil) {
			o.links[f][to] = append(o.links[f][to], bound(at))
		}
	}
}

// common is the time below which no optimistic federate can be set back any more, by looking at all of them at once.
func (o *whole) common() int {
	at := api.Inf
	for a := range o.w.Feds {
		if o.fast[a] == nil {
			continue
		}
		at = min(at, o.fast[a].Local())
		for b := range o.w.Feds {
			for _, i := range o.links[a][b] {
				if o.fast[b] != nil {
					at = min(at, i.Msg.Key.T)
				}
			}
		}
	}
	return at
}

// commit lets all settle what can't be undone any more.
func (o *whole) commit() {
	o.t.Helper()
	at := o.common()
	if at < o.value {
		o.t.Errorf("the common time falls from %d to %d", o.value, at)
	}
	o.value = at
	for f, x := range o.fast {
		if x == nil {
			continue
		}
		_, l, e := x.Commit(at)
		if e != api.OK {
			o.t.Errorf("%d's Commit(%d): %d", f, at, e)
		}
		for _, m := range l {
			if m.Key.T < o.told[f] {
				o.t.Errorf("%d sends %v, and told %d", f, m, o.told[f])
			}
		}
		o.send(l)
	}
}

// turn does each thing that can be done once.
func (o *whole) turn() {
	o.t.Helper()
	for f := range o.w.Feds {
		o.step(f)
		o.tell(f)
		for to := range o.w.Feds {
			o.deliver(f, to)
		}
	}
	o.commit()
}

// log, state and waiting are those of f's node.
func (o *whole) log(f int) []api.Done {
	if o.fast[f] != nil {
		return o.fast[f].Log()
	}
	return o.slow[f].Log()
}

func (o *whole) state(f int) int {
	if o.fast[f] != nil {
		return o.fast[f].State()
	}
	return o.slow[f].State()
}

func (o *whole) waiting(f int) []api.Msg {
	if o.fast[f] != nil {
		return o.fast[f].Waiting()
	}
	return o.slow[f].Waiting()
}

// isQuiet tells whether nothing is under way below the end, and all is settled.
func (o *whole) isQuiet() bool {
	for f := range o.w.Feds {
		if o.fast[f] != nil && o.fast[f].Ahead() > 0 {
			return false
		}
		for _, m := range o.waiting(f) {
			if m.Key.T < o.w.End {
				return false
			}
		}
		for _, l := range o.links[f] {
			if slices.ContainsFunc(l, func(i api.Item) bool { return i.Kind != api.Bound }) {
				return false
			}
		}
	}
	return true
}

// settle takes turns till all is quiet; by each turn the clocks rise, so there are not many of them.
func (o *whole) settle() {
	o.t.Helper()
	for range 5000 {
		if o.isQuiet() || o.t.Failed() || o.full {
			return
		}
		o.turn()
	}
	o.t.Errorf("it does not end: %v", o.w)
}

// begun: what each node has taken for good is the beginning of what it takes when all is done one behind the other.
func (o *whole) begun(r *solo.Run) bool {
	for f := range o.w.Feds {
		l, want := o.log(f), r.Log(f)
		if len(l) > len(want) || !slices.Equal(l, want[:len(l)]) {
			return false
		}
	}
	return true
}

// done: what each node has taken for good is just that, and so is its state.
func (o *whole) done(r *solo.Run) bool {
	for f := range o.w.Feds {
		if !slices.Equal(o.log(f), r.Log(f)) || o.state(f) != r.State(f) {
			return false
		}
	}
	return true
}

// ended is the run of w that is done one behind the other; false, if it does not come to an end soon.
func ended(t *testing.T, w api.World) (*solo.Run, bool) {
	t.Helper()
	r, e := solo.New(w)
	if e != api.OK {
		t.Fatalf("solo.New: %d", e)
	}
	const most = 400
	return r, r.Steps(most) < most
}

// P15.7, and the first two examples of the whole: two that answer one another take at 3, 5, 7 and so on, whatever kinds they are of.
func TestTwoThatAnswerOneAnother(t *testing.T) {
	for kinds := range 4 {
		o := wholeOf(t, pair(20, kinds&1, kinds>>1))
		o.settle()
		for f := range 2 {
			for i, d := range o.log(f) {
				if want := message(5-2*f+4*i, 1-f, i, f, 0, 1-f+2*i); d.Msg != want {
					t.Errorf("kinds %d: %d takes %v, not %v", kinds, f, d.Msg, want)
				}
			}
		}
		if len(o.log(0)) != 4 || len(o.log(1)) != 5 {
			t.Errorf("kinds %d: %v, %v", kinds, o.log(0), o.log(1))
		}
	}
}

// P15.7, W1, W2: in whatever order things are done, what is settled is the beginning of what is done one behind the other; and in the end it is all of it, if there was always room.
func TestWholeInAnyOrder(t *testing.T) {
	looked, taken, antis := 0, 0, 0
	for i, w := range worlds(t, 60) {
		r, is := ended(t, w)
		if !is {
			continue
		}
		for seed := range 3 {
			o := wholeOf(t, w)
			next := numbers(uint64(100*i + seed))
			// The first of the orders is that of turns alone.
			for range 600 * seed {
				f := next(len(w.Feds))
				switch next(10) {
				case 0, 1, 2, 3:
					o.step(f)
				case 4:
					o.tell(f)
				case 5:
					if next(10) == 0 {
						o.commit()
					}
				default:
					o.deliver(f, next(len(w.Feds)))
				}
				if !o.begun(r) {
					t.Fatalf("federation %d, order %d: not the beginning of what is done one behind the other: %v", i, seed, w)
				}
			}
			o.settle()
			antis += o.antis
			if !o.begun(r) || !o.full && !o.done(r) {
				t.Fatalf("federation %d, order %d: not what is done one behind the other: %v", i, seed, w)
			}
			if o.full {
				continue
			}
			looked++
			for f := range w.Feds {
				taken += len(r.Log(f))
			}
		}
	}
	if looked < 300 || taken < 10000 || antis < 1000 {
		t.Errorf("only %d orders, with %d messages, %d taken back", looked, taken, antis)
	}
}
