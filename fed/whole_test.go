package fed_test

import (
	"slices"
	"testing"

	"paceline/api"
	"paceline/fed"
	"paceline/solo"
	"paceline/vtime"
)

// whole is a kernel, with what its federates take, and come to, when all is done one behind the other.
type whole struct {
	t      *testing.T
	k      *fed.Kernel
	feds   int
	all    [api.MaxFeds][]api.Done
	states [api.MaxFeds]int
	// Whether a node was ever without room.
	full bool
	// What it told last.
	value int
	logs  [api.MaxFeds][]api.Done
}

func wholeOf(t *testing.T, w api.World, run *solo.Run, room int) *whole {
	t.Helper()
	o := &whole{t: t, k: made(t, w, room), feds: len(w.Feds)}
	for f := range w.Feds {
		o.all[f], o.states[f] = run.Log(f), run.State(f)
	}
	return o
}

// do does one thing, or not; and whatever it is, what was taken for good stays, the beginning of what is taken one behind the other.
func (o *whole) do(op fed.Op) api.Errno {
	o.t.Helper()
	e := o.k.Do(op)
	if e == api.ErrFull && (op.Kind == deliver || op.Kind == step && len(o.k.Out(op.A)) == 0) {
		o.full = true
	}
	if e != api.OK {
		return e
	}
	if o.k.Value() < o.value {
		o.t.Fatalf("the common time falls from %d to %d", o.value, o.k.Value())
	}
	o.value = o.k.Value()
	for f := range o.feds {
		l, all := o.k.Log(f), o.all[f]
		if !begins(o.logs[f], l) {
			o.t.Fatalf("%d had taken %v, and has now %v", f, o.logs[f], l)
		}
		if !begins(l, all) {
			o.t.Fatalf("%d has taken %v, but takes %v one behind the other", f, l, all)
		}
		o.logs[f] = l
	}
	return e
}

// begins tells whether l is the beginning of all.
func begins(l, all []api.Done) bool {
	return len(l) <= len(all) && slices.Equal(l, all[:len(l)])
}

// ops are all that can be asked for: each of them once.
func (o *whole) ops() []fed.Op {
	all := []fed.Op{{Kind: begin}}
	for a := range o.feds {
		for _, kind := range []int{step, flush, tell, turn, report} {
			all = append(all, fed.Op{Kind: kind, A: a})
		}
		for b := range o.feds {
			all = append(all, fed.Op{Kind: deliver, A: a, B: b})
		}
	}
	return all
}

// settle does each thing in turns, in an order that is drawn, till it is quiet.
func (o *whole) settle(next func(int) int) {
	o.t.Helper()
	ops := o.ops()
	for i := range ops {
		j := next(i + 1)
		ops[i], ops[j] = ops[j], ops[i]
	}
	for n := 0; !o.k.Quiet() && !o.full; n++ {
		if n > 20000 {
			o.t.Fatalf("it does not come to rest")
		}
		for _, op := range ops {
			o.do(op)
		}
	}
}

// done: all was taken, each federate is in its last state; and from now on nothing is taken any more.
func (o *whole) done() {
	o.t.Helper()
	for range 3 {
		for f := range o.feds {
			if !slices.Equal(o.k.Log(f), o.all[f]) || o.k.State(f) != o.states[f] {
				o.t.Fatalf("%d has taken %v, but takes %v one behind the other", f, o.k.Log(f), o.all[f])
			}
		}
		for _, op := range o.ops() {
			if e := o.do(op); op.Kind == step && e == api.OK {
				o.t.Fatalf("%v, though it was quiet", op)
			}
		}
		if !o.k.Quiet() {
			o.t.Fatalf("it is quiet no more")
		}
	}
}

// ended is the run of w that is done one behind the other; false, if it does not come to an end soon.
func ended(t *testing.T, w api.World) (*solo.Run, bool) {
	t.Helper()
	r, e := solo.New(w)
	if e != api.OK {
		t.Fatalf("solo.New: %d", e)
	}
	const most = 400
	return r, r.Steps(most) < most
}

// The first two examples of the whole: two that answer one another take at 3, 5, 7 and so on, whatever kinds they are of.
func TestTwoThatAnswerOneAnother(t *testing.T) {
	for kinds := range 4 {
		w := pair(20, kinds&1, kinds>>1)
		r, _ := ended(t, w)
		o := wholeOf(t, w, r, 1)
		o.settle(numbers(1))
		o.done()
		for f := range 2 {
			for i, d := range o.logs[f] {
				if want := message(5-2*f+4*i, 1-f, i, f, 0, 1-f+2*i); d.Msg != want {
					t.Errorf("kinds %d: %d takes %v, not %v", kinds, f, d.Msg, want)
				}
			}
		}
		if len(o.logs[0]) != 4 || len(o.logs[1]) != 5 {
			t.Errorf("kinds %d: %v", kinds, o.logs)
		}
	}
}

// W1, W2, W3: whichever federates are optimistic, and however much room links have, all comes to what it comes to one behind the other.
func TestWhicheverAreOptimistic(t *testing.T) {
	looked := 0
	for i, w := range worlds(t, 40) {
		r, is := ended(t, w)
		if !is || len(w.Feds) > 4 {
			continue
		}
		for kinds := range 1 << len(w.Feds) {
			for f := range w.Feds {
				w.Feds[f].Kind = kinds >> f & 1
			}
			next := numbers(uint64(100*i + kinds))
			for _, room := range []int{1, 2 + next(api.MaxLink-2), api.MaxLink} {
				o := wholeOf(t, w, r, room)
				o.settle(next)
				if !o.full {
					o.done()
					looked++
				}
			}
		}
	}
	if looked < 500 {
		t.Errorf("only %d ways", looked)
	}
}

// W1, W2, W3: in whatever order things are done, what was taken for good is the beginning of what is done one behind the other, and stays; in the end it is all of it.
func TestWhateverOrder(t *testing.T) {
	looked, taken := 0, 0
	for i, w := range worlds(t, 60) {
		r, is := ended(t, w)
		if !is {
			continue
		}
		for seed := range 3 {
			next := numbers(uint64(100*i + seed))
			o := wholeOf(t, w, r, 1+next(api.MaxLink))
			for range 1500 {
				o.do(drawn(next, len(w.Feds)))
			}
			o.settle(next)
			if o.full {
				continue
			}
			o.done()
			looked++
			for f := range w.Feds {
				taken += len(o.logs[f])
			}
		}
	}
	if looked < 300 || taken < 5000 {
		t.Errorf("only %d orders, with %d messages", looked, taken)
	}
}

// W1, W3: also where nodes are without room what was taken for good is the beginning of it, in the order of the keys.
func TestWithoutRoom(t *testing.T) {
	full, taken := 0, 0
	for kinds := range 8 {
		w := heard(2000, kinds&1, kinds>>1&1, kinds>>2)
		for f := range 2 {
			rule := &w.Feds[f].Rules[0]
			rule.Sends = append(rule.Sends, api.Out{Class: 0, Delay: 60, Add: 5})
		}
		r, _ := solo.New(w)
		r.Steps(5000)
		for seed := range 3 {
			next := numbers(uint64(seed))
			o := wholeOf(t, w, r, 1+next(api.MaxLink))
			for n := range 12000 {
				op := drawn(next, len(w.Feds))
				// Till late 2 takes nothing: all that comes to it waits.
				if op.Kind == step && op.A == 2 && n < 10000 {
					continue
				}
				o.do(op)
			}
			if o.full {
				full++
			}
			for f := range w.Feds {
				taken += len(o.logs[f])
				isBehind := func(a, b api.Done) int { return vtime.Cmp(a.Msg.Key, b.Msg.Key) }
				if !slices.IsSortedFunc(o.logs[f], isBehind) {
					t.Errorf("%d has taken %v", f, o.logs[f])
				}
			}
		}
	}
	if full < 12 || taken < 1000 {
		t.Errorf("only %d were without room, only %d were taken", full, taken)
	}
}

// W4: a kernel that was never asked for what is refused goes the same way.
func TestWhatIsRefusedChangesNothing(t *testing.T) {
	refused := 0
	for i, w := range worlds(t, 60) {
		next := numbers(uint64(i))
		room := 1 + next(3)
		asked, spared := made(t, w, room), made(t, w, room)
		for range 1500 {
			o := drawn(next, len(w.Feds))
			if asked.Do(o) != api.OK {
				refused++
				continue
			}
			if e := spared.Do(o); e != api.OK {
				t.Fatalf("federation %d: Do(%v): %d", i, o, e)
			}
		}
		if is, should := tells(asked), tells(spared); !is.same(should) {
			t.Fatalf("federation %d: %v, not %v", i, is, should)
		}
		// What is not told shows in what is refused.
		for range 300 {
			o := drawn(next, len(w.Feds))
			if a, b := asked.Do(o), spared.Do(o); a != b {
				t.Fatalf("federation %d: Do(%v): %d, not %d", i, o, a, b)
			}
		}
	}
	if refused < 10000 {
		t.Errorf("only %d were refused", refused)
	}
}
