package rti_test

import (
	"math"
	"slices"
	"strings"
	"testing"

	"paceline/api"
	"paceline/rti"
)

// The kinds of what is asked for.
const (
	tar = 1 // to go there
	nmr = 2 // the next message
	fqr = 3 // all that waits
)

const maxLook = 1 << 20

// made is an rti of these classes.
func made(t *testing.T, parents ...int) *rti.Rti {
	t.Helper()
	r, e := rti.New(parents)
	if e != api.OK || r == nil {
		t.Fatalf("New(%v): %d", parents, e)
	}
	return r
}

// done: all of these answered OK.
func done(t *testing.T, answers ...api.Errno) {
	t.Helper()
	for i, e := range answers {
		if e != api.OK {
			t.Fatalf("call %d: %d", i, e)
		}
	}
}

// answered: this is what was answered, in the order of the wanted ones.
func answered(t *testing.T, got []api.Errno, want ...api.Errno) {
	t.Helper()
	if !slices.Equal(got, want) {
		t.Errorf("%v, not %v", got, want)
	}
}

// refused: the call answers that error, and changes nothing.
func refused(t *testing.T, r *rti.Rti, want api.Errno, call func() api.Errno) {
	t.Helper()
	was := all(r)
	if got := call(); got != want {
		t.Errorf("%d, not %d", got, want)
	}
	if is := all(r); is != was {
		t.Errorf("error %d changed\n%s to\n%s", want, was, is)
	}
}

// all that is told of r, as a text.
func all(r *rti.Rti) string {
	var text strings.Builder
	for _, row := range r.Rows() {
		text.WriteString(strings.Join(row, ",") + "\n")
	}
	return text.String()
}

// sends: f sends something timed, with that number.
func sends(t *testing.T, r *rti.Rti, f, c, body, at, want int) {
	t.Helper()
	if n, e := r.Send(f, c, body, at, true); n != want || e != api.OK {
		t.Fatalf("Send(%d, %d, %d, %d): %d, %d, not %d", f, c, body, at, n, e, want)
	}
}

// tells: f sends something without a time.
func tells(t *testing.T, r *rti.Rti, f, c, body int) {
	t.Helper()
	if n, e := r.Send(f, c, body, 77, false); n != 0 || e != api.OK {
		t.Fatalf("Send(%d, %d, %d) without a time: %d, %d", f, c, body, n, e)
	}
}

// sendFails: what f sends is refused by that error, and changes nothing.
func sendFails(t *testing.T, r *rti.Rti, want api.Errno, f, c, body, at int, timed bool) {
	t.Helper()
	refused(t, r, want, func() api.Errno {
		n, e := r.Send(f, c, body, at, timed)
		if n != 0 {
			t.Errorf("Send: %d beside an error", n)
		}
		return e
	})
}

// waits: f looks, and is granted nothing; plain ones come.
func waits(t *testing.T, r *rti.Rti, f, at int, plain ...api.Msg) {
	t.Helper()
	g, e := r.Look(f)
	if e != api.OK || g.Granted || g.Time != at || len(g.Timed) != 0 || !slices.Equal(g.Plain, plain) {
		t.Fatalf("Look(%d): %v, %d; not at %d, with %v", f, g, e, at, plain)
	}
	if r.Time(f) != at {
		t.Fatalf("Time(%d): %d, not %d", f, r.Time(f), at)
	}
}

// granted: f looks, and is granted that time, with these timed ones, and no plain ones.
func granted(t *testing.T, r *rti.Rti, f, at int, timed ...api.Msg) {
	t.Helper()
	g, e := r.Look(f)
	if e != api.OK || !g.Granted || g.Time != at || len(g.Plain) != 0 || !slices.Equal(g.Timed, timed) {
		t.Fatalf("Look(%d): %v, %d; not granted %d, with %v", f, g, e, at, timed)
	}
	if r.Time(f) != at {
		t.Fatalf("Time(%d): %d, not %d", f, r.Time(f), at)
	}
}

// message of these numbers.
func message(at, from, seq, to, class, body int) api.Msg {
	return api.Msg{Key: api.Key{T: at, From: from, Seq: seq}, To: to, Class: class, Body: body}
}

// pair: 0 publishes class 1, regulating with lookahead 2; 1, constrained, hears all.
func pair(t *testing.T) *rti.Rti {
	t.Helper()
	r := made(t, -1, 0)
	done(t, r.Join(0), r.Join(1), r.Publish(0, 1, true), r.Subscribe(1, 0, true), r.Regulate(0, 2), r.Constrain(1))
	return r
}

// goTo: f, whom nothing holds back, goes to a time.
func goTo(t *testing.T, r *rti.Rti, f, at int) {
	t.Helper()
	done(t, r.Ask(f, tar, at))
	if g, e := r.Look(f); e != api.OK || !g.Granted || g.Time != at {
		t.Fatalf("%d goes to %d: %v, %d", f, at, g, e)
	}
}

// P20.1
func TestNew(t *testing.T) {
	for _, parents := range [][]int{nil, {}, {0}, {-2}, {-1, 1}, {-1, -1, 3}, slices.Repeat([]int{-1}, 17), {math.MaxInt}} {
		if r, e := rti.New(parents); r != nil || e != api.ErrTree {
			t.Errorf("New(%v): %d", parents, e)
		}
	}
	for _, parents := range [][]int{{-1}, {-1, 0, 1}, slices.Repeat([]int{-1}, 16)} {
		r := made(t, parents...)
		for f := -1; f <= api.MaxFeds; f++ {
			if r.Time(f) != -1 || r.Bound(f) != -1 {
				t.Errorf("of %d, no member: %d, %d", f, r.Time(f), r.Bound(f))
			}
		}
	}
	r := made(t, -1, 0)
	if got := all(r); got != "-1,0\n"+strings.Repeat("0,0,0,0,0,0,0\n-1\n-1\n-1\n-1\n", 8) {
		t.Error(got)
	}
}

// services are all calls that name a federate and ask for a member; each is refused by something of its own, too.
func services(r *rti.Rti) map[string]func(f int) api.Errno {
	return map[string]func(f int) api.Errno{
		"Resign":       r.Resign,
		"Publish":      func(f int) api.Errno { return r.Publish(f, 99, true) },
		"Subscribe":    func(f int) api.Errno { return r.Subscribe(f, 99, true) },
		"Regulate":     func(f int) api.Errno { return r.Regulate(f, 0) },
		"Unregulate":   r.Unregulate,
		"Constrain":    r.Constrain,
		"Unconstrain":  r.Unconstrain,
		"Send":         func(f int) api.Errno { _, e := r.Send(f, 99, -1, -1, true); return e },
		"Send untimed": func(f int) api.Errno { _, e := r.Send(f, 99, -1, -1, false); return e },
		"Retract":      func(f int) api.Errno { return r.Retract(f, 99) },
		"Ask":          func(f int) api.Errno { return r.Ask(f, 9, -1) },
		"Look": func(f int) api.Errno {
			g, e := r.Look(f)
			if e != api.OK && (g.Granted || g.Time != 0 || len(g.Plain) != 0 || len(g.Timed) != 0) {
				return -77
			}
			return e
		},
	}
}

// P20.1: what is asked ahead of all else: whether there is f, whether it is a member, whether a save is under way.
func TestAheadOfAll(t *testing.T) {
	r := pair(t)
	tells(t, r, 0, 1, 5)
	for saving := range 2 {
		for name, call := range services(r) {
			for _, f := range []int{-1, 8, math.MinInt, math.MaxInt} {
				refused(t, r, api.ErrArg, func() api.Errno { return call(f) })
			}
			for f := 2; f < 8; f++ {
				refused(t, r, api.ErrMember, func() api.Errno { return call(f) })
			}
			if saving == 1 {
				for f := range 2 {
					refused(t, r, api.ErrSaving, func() api.Errno { return call(f) })
				}
			}
			if t.Failed() {
				t.Fatal(name, saving)
			}
		}
		for _, f := range []int{-1, 8, math.MinInt, math.MaxInt} {
			refused(t, r, api.ErrArg, func() api.Errno { return r.Join(f) })
		}
		if r.Time(0) != 0 || r.Bound(0) != api.Inf || r.Time(1) != 0 || r.Bound(1) != 2 || r.Time(2) != -1 || r.Bound(2) != -1 || r.Time(8) != -1 || r.Bound(-1) != -1 {
			t.Error("Time, Bound", saving)
		}
		if saving == 0 {
			done(t, r.Begin())
		}
	}
	// No save asks whom it names for more: of Join, that comes ahead of whether f is a member.
	for f := range 8 {
		refused(t, r, api.ErrSaving, func() api.Errno { return r.Join(f) })
	}
}

// P20.2
func TestJoin(t *testing.T) {
	r := made(t, -1)
	for f := range 8 {
		done(t, r.Join(f))
		refused(t, r, api.ErrJoined, func() api.Errno { return r.Join(f) })
		if r.Time(f) != 0 || r.Bound(f) != api.Inf {
			t.Errorf("%d: %d, %d", f, r.Time(f), r.Bound(f))
		}
		waits(t, r, f, 0)
	}
}

// P20.1, P20.2: of who resigns nothing is left but how many timed messages it sent, and what it sent to others.
func TestResign(t *testing.T) {
	r := pair(t)
	done(t, r.Publish(1, 0, true), r.Subscribe(0, 0, true), r.Constrain(0))
	done(t, r.Regulate(1, 3))
	sends(t, r, 0, 1, 5, 4, 0)
	sends(t, r, 1, 0, 6, 9, 0)
	tells(t, r, 0, 1, 7)
	done(t, r.Ask(0, nmr, 50), r.Resign(0))
	refused(t, r, api.ErrMember, func() api.Errno { return r.Resign(0) })
	if r.Time(0) != -1 || r.Bound(0) != -1 || r.Bound(1) != api.Inf {
		t.Error("resigned", r.Time(0), r.Bound(0), r.Bound(1))
	}
	sends(t, r, 1, 0, 8, 10, 1)
	// What it sent waits for 1; nobody takes it back who is no member.
	refused(t, r, api.ErrMember, func() api.Errno { return r.Retract(0, 0) })
	done(t, r.Join(0))
	if r.Time(0) != 0 || r.Bound(0) != 3 {
		t.Error("joined again", r.Time(0), r.Bound(0))
	}
	// It hears, publishes, has asked for nothing; it is neither regulating nor constrained; nothing waits for it.
	waits(t, r, 0, 0)
	sendFails(t, r, api.ErrPublish, 0, 1, 5, 4, true)
	answered(t, []api.Errno{r.Unregulate(0), r.Unconstrain(0)}, api.ErrNotReg, api.ErrNotCon)
	sends(t, r, 1, 0, 9, 11, 2)
	waits(t, r, 0, 0)
	done(t, r.Subscribe(0, 0, true), r.Publish(0, 1, true))
	waits(t, r, 0, 0)
	sends(t, r, 0, 1, 9, 0, 1)
	waits(t, r, 1, 0, message(0, 0, 1, 1, 1, 7), message(0, 0, 1, 1, 1, 9))
	done(t, r.Ask(1, fqr, 20))
	granted(t, r, 1, 4, message(4, 0, 0, 1, 1, 5))
}

// P20.2: who resigned can take back what waits for others, when it is a member again.
func TestRetractWhenJoinedAgain(t *testing.T) {
	r := pair(t)
	sends(t, r, 0, 1, 5, 4, 0)
	done(t, r.Resign(0), r.Join(0), r.Retract(0, 0))
	refused(t, r, api.ErrHandle, func() api.Errno { return r.Retract(0, 0) })
	done(t, r.Ask(1, tar, 20))
	granted(t, r, 1, 20)
}

// P20.2: classes, and their kinds.
func TestPublishSubscribe(t *testing.T) {
	r := made(t, -1, 0, 0, 1)
	done(t, r.Join(0), r.Join(1), r.Join(2))
	for _, c := range []int{-1, 4, math.MinInt, math.MaxInt} {
		for _, is := range []bool{true, false} {
			refused(t, r, api.ErrClass, func() api.Errno { return r.Publish(0, c, is) })
			refused(t, r, api.ErrClass, func() api.Errno { return r.Subscribe(0, c, is) })
		}
	}
	done(t, r.Publish(0, 3, true), r.Publish(0, 3, true), r.Publish(0, 2, true), r.Subscribe(1, 0, true), r.Subscribe(1, 1, true), r.Subscribe(2, 1, true), r.Subscribe(0, 0, true))
	tells(t, r, 0, 3, 1)
	tells(t, r, 0, 2, 2)
	sendFails(t, r, api.ErrPublish, 0, 1, 3, 0, false)
	waits(t, r, 0, 0)
	waits(t, r, 1, 0, message(0, 0, 0, 1, 3, 1), message(0, 0, 0, 1, 2, 2))
	waits(t, r, 2, 0, message(0, 0, 0, 2, 3, 1))
	// Of two subscriptions one is left.
	done(t, r.Subscribe(1, 0, false), r.Subscribe(2, 1, false), r.Subscribe(2, 0, false), r.Publish(0, 2, false))
	tells(t, r, 0, 3, 4)
	sendFails(t, r, api.ErrPublish, 0, 2, 5, 0, false)
	waits(t, r, 1, 0, message(0, 0, 0, 1, 3, 4))
	waits(t, r, 2, 0)
}

// P20.3
func TestRegulate(t *testing.T) {
	for _, look := range []int{1, 2, maxLook} {
		r := made(t, -1)
		done(t, r.Join(0), r.Join(1), r.Regulate(0, look))
		if r.Bound(1) != look || r.Bound(0) != api.Inf {
			t.Errorf("with %d: %d", look, r.Bound(1))
		}
		refused(t, r, api.ErrRegul, func() api.Errno { return r.Regulate(0, look) })
		refused(t, r, api.ErrRegul, func() api.Errno { return r.Regulate(0, 0) })
	}
	r := made(t, -1)
	done(t, r.Join(0))
	for _, look := range []int{0, -1, maxLook + 1, math.MinInt, math.MaxInt} {
		refused(t, r, api.ErrLook, func() api.Errno { return r.Regulate(0, look) })
	}
	done(t, r.Regulate(0, 3), r.Unregulate(0))
	refused(t, r, api.ErrNotReg, func() api.Errno { return r.Unregulate(0) })
	// Regulating, and asking: what is named first comes first.
	done(t, r.Ask(0, tar, 5))
	refused(t, r, api.ErrPending, func() api.Errno { return r.Regulate(0, 3) })
	refused(t, r, api.ErrPending, func() api.Errno { return r.Regulate(0, 0) })
	refused(t, r, api.ErrNotReg, func() api.Errno { return r.Unregulate(0) })
	granted(t, r, 0, 5)
	done(t, r.Regulate(0, 3), r.Ask(0, tar, 6))
	refused(t, r, api.ErrRegul, func() api.Errno { return r.Regulate(0, 3) })
	refused(t, r, api.ErrPending, func() api.Errno { return r.Unregulate(0) })
	granted(t, r, 0, 6)
	done(t, r.Unregulate(0))
}

// P20.3: who gets regulating must send above what others, that are constrained, were granted.
func TestRegulatePast(t *testing.T) {
	r := made(t, -1)
	for f := range 4 {
		done(t, r.Join(f))
	}
	done(t, r.Constrain(0), r.Constrain(1), r.Constrain(3))
	goTo(t, r, 0, 4)
	goTo(t, r, 1, 10)
	goTo(t, r, 2, 99) // not constrained
	goTo(t, r, 3, 7)
	for _, look := range []int{1, 2, 3} {
		refused(t, r, api.ErrPast, func() api.Errno { return r.Regulate(3, look) })
	}
	refused(t, r, api.ErrLook, func() api.Errno { return r.Regulate(3, 0) })
	done(t, r.Regulate(3, 4))
	// Its own time does not count.
	done(t, r.Unregulate(3), r.Resign(0), r.Resign(1), r.Regulate(3, 1))
	// Who is no member is not constrained; whose time comes to Inf is above all.
	s := made(t, -1)
	done(t, s.Join(0), s.Join(1), s.Constrain(1))
	goTo(t, s, 1, api.MaxTime)
	refused(t, s, api.ErrPast, func() api.Errno { return s.Regulate(0, maxLook) })
	goTo(t, s, 0, api.MaxTime)
	done(t, s.Regulate(0, 1))
	if s.Bound(1) != api.Inf {
		t.Error(s.Bound(1))
	}
}

// P20.3
func TestConstrain(t *testing.T) {
	r := made(t, -1)
	done(t, r.Join(0), r.Join(1))
	refused(t, r, api.ErrNotCon, func() api.Errno { return r.Unconstrain(0) })
	done(t, r.Ask(0, tar, 5))
	refused(t, r, api.ErrPending, func() api.Errno { return r.Constrain(0) })
	refused(t, r, api.ErrNotCon, func() api.Errno { return r.Unconstrain(0) })
	granted(t, r, 0, 5)
	for look := 1; look < 6; look++ {
		done(t, r.Regulate(1, look))
		refused(t, r, api.ErrPast, func() api.Errno { return r.Constrain(0) })
		// Who asks is told so first.
		done(t, r.Ask(0, tar, 5))
		refused(t, r, api.ErrPending, func() api.Errno { return r.Constrain(0) })
		granted(t, r, 0, 5)
		done(t, r.Unregulate(1))
	}
	done(t, r.Regulate(1, 6), r.Constrain(0))
	refused(t, r, api.ErrConstr, func() api.Errno { return r.Constrain(0) })
	done(t, r.Ask(0, tar, 6))
	refused(t, r, api.ErrConstr, func() api.Errno { return r.Constrain(0) })
	refused(t, r, api.ErrPending, func() api.Errno { return r.Unconstrain(0) })
	waits(t, r, 0, 5)
	done(t, r.Ask(1, tar, 1))
	granted(t, r, 0, 6)
	// It goes to where 1 may send, when 1 is where it asked to go.
	done(t, r.Unconstrain(0))
	goTo(t, r, 0, 7)
	refused(t, r, api.ErrPast, func() api.Errno { return r.Constrain(0) })
	granted(t, r, 1, 1)
	refused(t, r, api.ErrPast, func() api.Errno { return r.Constrain(0) })
	goTo(t, r, 1, 2)
	done(t, r.Constrain(0))
	// Its own lookahead does not count.
	s := made(t, -1)
	done(t, s.Join(0), s.Regulate(0, 1))
	goTo(t, s, 0, 9)
	done(t, s.Constrain(0))
}

// P20.3: the timed messages of who is constrained no more wait behind the plain ones.
func TestUnconstrain(t *testing.T) {
	r := pair(t)
	sends(t, r, 0, 1, 1, 9, 0)
	tells(t, r, 0, 1, 2)
	sends(t, r, 0, 1, 3, 5, 1)
	sends(t, r, 0, 1, 4, 5, 2)
	done(t, r.Unconstrain(1))
	refused(t, r, api.ErrNotCon, func() api.Errno { return r.Unconstrain(1) })
	refused(t, r, api.ErrHandle, func() api.Errno { return r.Retract(0, 1) })
	tells(t, r, 0, 1, 5)
	sends(t, r, 0, 1, 6, 4, 3)
	// Constrained again, it gets none of them back as a timed one.
	done(t, r.Constrain(1))
	waits(t, r, 1, 0, message(0, 0, 1, 1, 1, 2), message(5, 0, 1, 1, 1, 3), message(5, 0, 2, 1, 1, 4), message(9, 0, 0, 1, 1, 1), message(0, 0, 3, 1, 1, 5), message(4, 0, 3, 1, 1, 6))
	done(t, r.Ask(1, fqr, 30))
	granted(t, r, 1, 2)
}

// P20.3: MaxQueue of both together may wait as plain ones.
func TestUnconstrainFull(t *testing.T) {
	for _, plain := range []int{0, 1, 30, 63, 64} {
		for more := range 2 {
			r := pair(t)
			for i := range plain {
				tells(t, r, 0, 1, i)
			}
			n := min(api.MaxQueue-plain+more, api.MaxQueue)
			for i := range n {
				sends(t, r, 0, 1, i, 5, i)
			}
			if plain+n <= api.MaxQueue {
				done(t, r.Unconstrain(1))
				if g, _ := r.Look(1); len(g.Plain) != api.MaxQueue {
					t.Error(plain, len(g.Plain))
				}
				continue
			}
			refused(t, r, api.ErrFull, func() api.Errno { return r.Unconstrain(1) })
			done(t, r.Ask(1, tar, 1))
			refused(t, r, api.ErrPending, func() api.Errno { return r.Unconstrain(1) })
			if g, _ := r.Look(1); !g.Granted || len(g.Timed) != 0 {
				t.Error(g)
			}
			done(t, r.Unconstrain(1))
		}
	}
}

// P20.4: what is refused, in the order in which it is named.
func TestSendRefused(t *testing.T) {
	r := pair(t)
	for _, timed := range []bool{true, false} {
		for _, c := range []int{-1, 2, math.MinInt, math.MaxInt} {
			sendFails(t, r, api.ErrClass, 0, c, -1, -1, timed)
		}
		sendFails(t, r, api.ErrPublish, 0, 0, -1, -1, timed)
		sendFails(t, r, api.ErrPublish, 1, 1, -1, -1, timed)
		for _, body := range []int{-1, api.MaxBody, math.MinInt, math.MaxInt} {
			sendFails(t, r, api.ErrArg, 0, 1, body, -1, timed)
		}
	}
	for _, at := range []int{-1, api.MaxTime + 1, api.Inf, math.MinInt, math.MaxInt} {
		sendFails(t, r, api.ErrTime, 0, 1, 5, at, true)
	}
	for _, at := range []int{0, 1} {
		sendFails(t, r, api.ErrEarly, 0, 1, 5, at, true)
	}
	for i := range api.MaxQueue {
		sends(t, r, 0, 1, api.MaxBody-1, 2+i, i)
	}
	for range api.MaxQueue {
		tells(t, r, 0, 1, 0)
	}
	sendFails(t, r, api.ErrEarly, 0, 1, 5, 1, true)
	sendFails(t, r, api.ErrFull, 0, 1, 5, 2, true)
	sendFails(t, r, api.ErrFull, 0, 1, 5, 2, false)
	sendFails(t, r, api.ErrArg, 0, 1, -1, 2, true)
	sendFails(t, r, api.ErrTime, 0, 1, 5, -1, true)
}

// P20.4: how it goes to whom: as a timed one only if it is timed, its sender is regulating, and who gets it constrained.
func TestSendTo(t *testing.T) {
	for bits := range 8 {
		timed, regulating, constrained := bits&1 != 0, bits&2 != 0, bits&4 != 0
		r := made(t, -1)
		done(t, r.Join(3), r.Join(5), r.Publish(3, 0, true), r.Subscribe(5, 0, true))
		if regulating {
			done(t, r.Regulate(3, 1))
		}
		if constrained {
			done(t, r.Constrain(5))
		}
		want := message(0, 3, 0, 5, 0, 8)
		if timed {
			want.Key.T = 6
		}
		if n, e := r.Send(3, 0, 8, 6, timed); n != 0 || e != api.OK {
			t.Fatal(n, e)
		}
		if bits == 7 {
			done(t, r.Ask(5, fqr, 4))
			granted(t, r, 5, 1, want)
			continue
		}
		waits(t, r, 5, 0, want)
	}
}

// P20.4: numbers count all that is timed, whoever hears it; of others the next one is told.
func TestSendNumbers(t *testing.T) {
	r := made(t, -1, -1)
	done(t, r.Join(0), r.Join(1), r.Publish(0, 0, true), r.Publish(0, 1, true), r.Publish(1, 1, true), r.Subscribe(1, 1, true), r.Subscribe(0, 1, true))
	sends(t, r, 0, 0, 1, 5, 0)
	tells(t, r, 0, 1, 2)
	sends(t, r, 0, 1, 3, 0, 1)
	sends(t, r, 0, 1, 4, api.MaxTime, 2)
	sendFails(t, r, api.ErrTime, 0, 1, 4, -1, true)
	tells(t, r, 0, 1, 5)
	sends(t, r, 1, 1, 6, 3, 0)
	waits(t, r, 1, 0, message(0, 0, 1, 1, 1, 2), message(0, 0, 1, 1, 1, 3), message(api.MaxTime, 0, 2, 1, 1, 4), message(0, 0, 3, 1, 1, 5))
	waits(t, r, 0, 0, message(3, 1, 0, 0, 1, 6))
	// Regulating, it counts on.
	done(t, r.Regulate(0, 5), r.Constrain(1))
	sends(t, r, 0, 1, 7, 5, 3)
	done(t, r.Unregulate(0))
	sends(t, r, 0, 1, 8, 0, 4)
	done(t, r.Ask(1, fqr, 9))
	g, e := r.Look(1)
	if e != api.OK || !slices.Equal(g.Plain, []api.Msg{message(0, 0, 4, 1, 1, 8)}) || !slices.Equal(g.Timed, []api.Msg{message(5, 0, 3, 1, 1, 7)}) {
		t.Error(g, e)
	}
}

// P20.4: where one of those that hear it has no room, nobody gets it; only those of its own sort count.
func TestSendFull(t *testing.T) {
	r := made(t, -1)
	for f := range 4 {
		done(t, r.Join(f))
	}
	done(t, r.Publish(0, 0, true), r.Subscribe(1, 0, true), r.Regulate(0, 1), r.Constrain(1), r.Constrain(3), r.Subscribe(2, 0, true))
	for i := range api.MaxQueue {
		sends(t, r, 0, 0, i, 9, i)
	}
	done(t, r.Subscribe(3, 0, true))
	sendFails(t, r, api.ErrFull, 0, 0, 1, 9, true)
	// 2 takes its plain ones: now 1 alone has no room for a timed one.
	if g, _ := r.Look(2); len(g.Plain) != api.MaxQueue {
		t.Error(len(g.Plain))
	}
	sendFails(t, r, api.ErrFull, 0, 0, 1, 9, true)
	tells(t, r, 0, 0, 1)
	done(t, r.Ask(1, fqr, 1))
	g, _ := r.Look(1)
	if len(g.Timed) != api.MaxQueue || len(g.Plain) != 1 {
		t.Error(len(g.Timed), len(g.Plain))
	}
	sends(t, r, 0, 0, 2, 9, api.MaxQueue)
	// Now 2 alone has no room for a plain one.
	for range api.MaxQueue - 2 {
		tells(t, r, 0, 0, 3)
	}
	waitsFor := func(f, n int) {
		t.Helper()
		if g, _ := r.Look(f); len(g.Plain) != n {
			t.Error(f, len(g.Plain))
		}
	}
	waitsFor(1, api.MaxQueue-2)
	waitsFor(3, api.MaxQueue-1)
	sendFails(t, r, api.ErrFull, 0, 0, 1, 9, true)
	sendFails(t, r, api.ErrFull, 0, 0, 1, 9, false)
	waitsFor(1, 0)
	waitsFor(3, 0)
	waitsFor(2, api.MaxQueue)
	sends(t, r, 0, 0, 1, 9, api.MaxQueue+1)
}

// P20.1, P20.4: below its Output nobody that is regulating sends anything; what it asks for counts.
func TestOutput(t *testing.T) {
	r := made(t, -1)
	done(t, r.Join(0), r.Join(1), r.Publish(0, 0, true), r.Regulate(0, 4), r.Regulate(1, 3), r.Constrain(0))
	early := func(output int) {
		t.Helper()
		sendFails(t, r, api.ErrEarly, 0, 0, 1, output-1, true)
		if n, e := r.Send(0, 0, 1, output, true); e != api.OK {
			t.Error(n, e)
		}
	}
	early(4)
	done(t, r.Ask(0, tar, 10))
	early(14)
	waits(t, r, 0, 0)
	done(t, r.Resign(0), r.Join(0), r.Publish(0, 0, true), r.Regulate(0, 4), r.Constrain(0), r.Ask(0, nmr, 10))
	early(3 + 4)
	done(t, r.Ask(1, tar, 2))
	early(5 + 4)
	granted(t, r, 1, 2)
	early(5 + 4)
	// What waits for it comes first, and then it may answer.
	done(t, r.Subscribe(0, 0, true), r.Publish(1, 0, true))
	sends(t, r, 1, 0, 5, 6, 0)
	done(t, r.Ask(1, tar, 20))
	early(6 + 4)
	done(t, r.Retract(1, 0))
	early(10 + 4)
	granted(t, r, 1, 20)
	granted(t, r, 0, 10)
	early(10 + 4)
	// Who is not regulating has promised nothing.
	done(t, r.Unregulate(0))
	n, e := r.Send(0, 0, 1, 0, true)
	done(t, e)
	sends(t, r, 0, 0, 1, api.MaxTime, n+1)
	// At the end of all times there is none that it may send at.
	s := made(t, -1)
	done(t, s.Join(0), s.Publish(0, 0, true))
	goTo(t, s, 0, api.MaxTime)
	done(t, s.Regulate(0, 1))
	sendFails(t, s, api.ErrEarly, 0, 0, 1, api.MaxTime, true)
	sendFails(t, s, api.ErrTime, 0, 0, 1, api.Inf, true)
}

// P20.1: of bounds the least output of all others that are regulating counts; what waits counts by its first one.
func TestBound(t *testing.T) {
	r := made(t, -1)
	for f := range 4 {
		done(t, r.Join(f), r.Publish(f, 0, true))
	}
	bounds := func(want ...int) {
		t.Helper()
		for f, b := range want {
			if r.Bound(f) != b {
				t.Errorf("Bound(%d): %d, not %d", f, r.Bound(f), b)
			}
		}
	}
	bounds(api.Inf, api.Inf, api.Inf, api.Inf, -1)
	done(t, r.Regulate(1, 5), r.Regulate(2, 3))
	bounds(3, 3, 5, 3, -1)
	done(t, r.Constrain(1), r.Subscribe(1, 0, true), r.Ask(1, nmr, 30))
	// 1 may come to 3, and then sends at 8.
	bounds(3, 3, 8, 3, -1)
	done(t, r.Ask(2, tar, 40))
	bounds(35, 43, 35, 35, -1)
	sends(t, r, 2, 0, 5, 50, 0)
	sends(t, r, 2, 0, 5, 43, 1)
	bounds(35, 43, 35, 35, -1)
	granted(t, r, 2, 40)
	granted(t, r, 1, 30)
	bounds(35, 43, 35, 35, -1)
	done(t, r.Ask(1, nmr, 60))
	bounds(43, 43, 48, 43, -1)
	done(t, r.Ask(2, tar, 59))
	bounds(48, 62, 48, 48, -1)
	done(t, r.Retract(2, 1))
	bounds(55, 62, 55, 55, -1)
	done(t, r.Resign(1), r.Join(1))
	bounds(62, 62, api.Inf, 62, -1)
	// The eighth federate counts as all others.
	done(t, r.Join(7))
	goTo(t, r, 7, 20)
	done(t, r.Regulate(7, 9))
	bounds(29, 29, 29, 29, -1, -1, -1, 62)
}

// P20.5
func TestRetract(t *testing.T) {
	r := made(t, -1)
	for f := range 4 {
		done(t, r.Join(f), r.Publish(f, 0, true), r.Subscribe(f, 0, true), r.Constrain(f))
	}
	done(t, r.Regulate(0, 1), r.Regulate(1, 1))
	sends(t, r, 0, 0, 1, 5, 0)
	sends(t, r, 1, 0, 2, 5, 0)
	sends(t, r, 0, 0, 3, 5, 1)
	sends(t, r, 0, 0, 4, 7, 2)
	for _, h := range []int{-1, 3, 4, math.MinInt, math.MaxInt} {
		refused(t, r, api.ErrHandle, func() api.Errno { return r.Retract(0, h) })
	}
	// Not by others than him who sent it.
	refused(t, r, api.ErrHandle, func() api.Errno { return r.Retract(1, 1) })
	refused(t, r, api.ErrHandle, func() api.Errno { return r.Retract(2, 0) })
	done(t, r.Retract(0, 1))
	refused(t, r, api.ErrHandle, func() api.Errno { return r.Retract(0, 1) })
	done(t, r.Ask(0, tar, 9), r.Ask(1, tar, 9), r.Ask(2, tar, 5))
	granted(t, r, 2, 5, message(5, 0, 0, 2, 0, 1), message(5, 1, 0, 2, 0, 2))
	// It came to 2; 1 and 3 don't get it any more.
	done(t, r.Retract(0, 0))
	refused(t, r, api.ErrHandle, func() api.Errno { return r.Retract(0, 0) })
	done(t, r.Ask(3, tar, 9))
	granted(t, r, 3, 9, message(5, 1, 0, 3, 0, 2), message(7, 0, 2, 3, 0, 4))
	granted(t, r, 1, 9, message(7, 0, 2, 1, 0, 4))
	// 2 alone has not got what 0 sent last.
	done(t, r.Ask(2, tar, 6))
	granted(t, r, 2, 6)
	done(t, r.Retract(0, 2))
	refused(t, r, api.ErrHandle, func() api.Errno { return r.Retract(0, 2) })
	done(t, r.Ask(2, tar, 9))
	granted(t, r, 2, 9)
	granted(t, r, 0, 9, message(5, 1, 0, 0, 0, 2))
	refused(t, r, api.ErrHandle, func() api.Errno { return r.Retract(1, 0) })
}

// P20.5: what has no time, and what waits as a plain one alone, can't be taken back; nor what nobody heard.
func TestRetractPlain(t *testing.T) {
	r := pair(t)
	tells(t, r, 0, 1, 5)
	refused(t, r, api.ErrHandle, func() api.Errno { return r.Retract(0, 0) })
	done(t, r.Unregulate(0))
	sends(t, r, 0, 1, 6, 9, 0)
	refused(t, r, api.ErrHandle, func() api.Errno { return r.Retract(0, 0) })
	done(t, r.Regulate(0, 1), r.Subscribe(1, 0, false))
	sends(t, r, 0, 1, 7, 9, 1)
	refused(t, r, api.ErrHandle, func() api.Errno { return r.Retract(0, 1) })
	done(t, r.Subscribe(1, 1, true))
	sends(t, r, 0, 1, 8, 9, 2)
	// A plain one of the same number stays.
	tells(t, r, 0, 1, 9)
	done(t, r.Unregulate(0), r.Retract(0, 2))
	waits(t, r, 1, 0, message(0, 0, 0, 1, 1, 5), message(9, 0, 0, 1, 1, 6), message(0, 0, 3, 1, 1, 9))
	done(t, r.Resign(1))
	refused(t, r, api.ErrHandle, func() api.Errno { return r.Retract(0, 2) })
}

// P20.5: what waited for who resigned waits no more.
func TestRetractResigned(t *testing.T) {
	r := pair(t)
	sends(t, r, 0, 1, 5, 9, 0)
	done(t, r.Resign(1))
	refused(t, r, api.ErrHandle, func() api.Errno { return r.Retract(0, 0) })
}

// P20.6
func TestAsk(t *testing.T) {
	r := made(t, -1)
	done(t, r.Join(0))
	goTo(t, r, 0, 7)
	for _, kind := range []int{-1, 0, 4, math.MinInt, math.MaxInt} {
		for _, at := range []int{8, 6, -1} {
			refused(t, r, api.ErrArg, func() api.Errno { return r.Ask(0, kind, at) })
		}
	}
	for _, kind := range []int{tar, nmr, fqr} {
		for _, at := range []int{-1, api.MaxTime + 1, api.Inf, math.MinInt, math.MaxInt} {
			refused(t, r, api.ErrTime, func() api.Errno { return r.Ask(0, kind, at) })
		}
		for _, at := range []int{0, 6} {
			refused(t, r, api.ErrPast, func() api.Errno { return r.Ask(0, kind, at) })
		}
		done(t, r.Ask(0, kind, 7))
		for _, at := range []int{7, 8, 6, -1, api.Inf} {
			refused(t, r, api.ErrPending, func() api.Errno { return r.Ask(0, kind, at) })
			refused(t, r, api.ErrArg, func() api.Errno { return r.Ask(0, 4, at) })
		}
		granted(t, r, 0, 7)
	}
	done(t, r.Ask(0, tar, api.MaxTime))
	granted(t, r, 0, api.MaxTime)
}

// P20.7: of each kind what comes, and how far it goes.
func TestLook(t *testing.T) {
	for _, x := range []struct{ kind, ask, other, at, n int }{
		// The other one, with lookahead 2, stands at 0 or asks for more; 5, 5, 8 and 20 wait.
		{tar, 4, 0, -1, 0}, {tar, 4, 2, -1, 0}, {tar, 4, 3, 4, 0}, {tar, 5, 4, 5, 2}, {tar, 8, 6, -1, 0}, {tar, 8, 7, 8, 3}, {tar, 30, 40, 30, 4},
		{nmr, 4, 2, -1, 0}, {nmr, 4, 3, 4, 0}, {nmr, 5, 3, -1, 0}, {nmr, 5, 4, 5, 2}, {nmr, 30, 3, -1, 0}, {nmr, 30, 4, 5, 2},
		{fqr, 4, 0, 2, 4}, {fqr, 4, 9, 4, 4}, {fqr, 9, 9, 5, 4}, {fqr, 9, 1, 3, 4}, {fqr, 0, 0, 0, 4},
	} {
		r := pair(t)
		sends(t, r, 0, 1, 1, 5, 0)
		sends(t, r, 0, 1, 2, 20, 1)
		sends(t, r, 0, 1, 3, 5, 2)
		sends(t, r, 0, 1, 4, 8, 3)
		wait := []api.Msg{message(5, 0, 0, 1, 1, 1), message(5, 0, 2, 1, 1, 3), message(8, 0, 3, 1, 1, 4), message(20, 0, 1, 1, 1, 2)}
		done(t, r.Ask(0, tar, x.other), r.Ask(1, x.kind, x.ask))
		if x.at < 0 {
			waits(t, r, 1, 0)
			refused(t, r, api.ErrPending, func() api.Errno { return r.Ask(1, tar, 99) })
			continue
		}
		granted(t, r, 1, x.at, wait[:x.n]...)
		// Now it has asked for nothing, and gets nothing twice.
		waits(t, r, 1, x.at)
		done(t, r.Unconstrain(1))
		waits(t, r, 1, x.at, wait[x.n:]...)
	}
}

// P20.7: plain ones come whether something is granted or not, and once.
func TestLookPlain(t *testing.T) {
	r := pair(t)
	tells(t, r, 0, 1, 5)
	sends(t, r, 0, 1, 6, 3, 0)
	tells(t, r, 0, 1, 4)
	waits(t, r, 1, 0, message(0, 0, 0, 1, 1, 5), message(0, 0, 1, 1, 1, 4))
	waits(t, r, 1, 0)
	done(t, r.Ask(1, tar, 3))
	tells(t, r, 0, 1, 7)
	waits(t, r, 1, 0, message(0, 0, 1, 1, 1, 7))
	tells(t, r, 0, 1, 8)
	done(t, r.Ask(0, tar, 2))
	g, e := r.Look(1)
	if e != api.OK || !g.Granted || g.Time != 3 || !slices.Equal(g.Plain, []api.Msg{message(0, 0, 1, 1, 1, 8)}) || !slices.Equal(g.Timed, []api.Msg{message(3, 0, 0, 1, 1, 6)}) {
		t.Error(g, e)
	}
	waits(t, r, 1, 3)
}

// P20.7: who is not constrained waits for nobody.
func TestLookUnconstrained(t *testing.T) {
	for _, kind := range []int{tar, nmr, fqr} {
		r := made(t, -1)
		done(t, r.Join(0), r.Join(1), r.Regulate(0, 1), r.Ask(1, kind, 50))
		if r.Bound(1) != 1 {
			t.Error(r.Bound(1))
		}
		granted(t, r, 1, 50)
	}
}

// P20.8
func TestSaving(t *testing.T) {
	r := pair(t)
	nothing := func() {
		t.Helper()
		refused(t, r, api.ErrNoSave, func() api.Errno {
			rows, e := r.End()
			if len(rows) != 0 {
				t.Error(rows)
			}
			return e
		})
	}
	nothing()
	done(t, r.Ask(1, tar, 5))
	refused(t, r, api.ErrPending, r.Begin)
	nothing()
	done(t, r.Resign(1))
	was := all(r)
	done(t, r.Begin())
	refused(t, r, api.ErrSaving, r.Begin)
	if all(r) != was {
		t.Error("begun")
	}
	rows, e := r.End()
	if e != api.OK || !slices.EqualFunc(rows, r.Rows(), slices.Equal) || all(r) != was {
		t.Error(rows, e)
	}
	nothing()
	done(t, r.Join(1), r.Begin())
	_, e = r.End()
	done(t, e, r.Ask(0, tar, 5))
	refused(t, r, api.ErrPending, r.Begin)
}
