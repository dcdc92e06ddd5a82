package save_test

import (
	"slices"
	"strconv"
	"strings"
	"testing"

	"paceline/api"
	"paceline/rti"
	"paceline/save"
)

// call is one of the services, with its numbers.
type call struct {
	name          string
	f, a, b, c, d int
}

// reply is all that a call answers.
type reply struct {
	e     api.Errno
	n     int
	given rti.Given
	rows  [][]string
}

func (a reply) same(b reply) bool {
	return a.e == b.e && a.n == b.n && a.given.Granted == b.given.Granted && a.given.Time == b.given.Time &&
		slices.Equal(a.given.Plain, b.given.Plain) && slices.Equal(a.given.Timed, b.given.Timed) &&
		slices.EqualFunc(a.rows, b.rows, slices.Equal)
}

func (c call) done(r *rti.Rti) reply {
	var x reply
	switch c.name {
	case "join":
		x.e = r.Join(c.f)
	case "resign":
		x.e = r.Resign(c.f)
	case "publish":
		x.e = r.Publish(c.f, c.a, c.b > 0)
	case "subscribe":
		x.e = r.Subscribe(c.f, c.a, c.b > 0)
	case "regulate":
		x.e = r.Regulate(c.f, c.a)
	case "unregulate":
		x.e = r.Unregulate(c.f)
	case "constrain":
		x.e = r.Constrain(c.f)
	case "unconstrain":
		x.e = r.Unconstrain(c.f)
	case "send":
		x.n, x.e = r.Send(c.f, c.a, c.b, c.c, c.d > 0)
	case "retract":
		x.e = r.Retract(c.f, c.a)
	case "ask":
		x.e = r.Ask(c.f, c.a, c.b)
	case "look":
		x.given, x.e = r.Look(c.f)
	case "begin":
		x.e = r.Begin()
	case "end":
		x.rows, x.e = r.End()
	case "ask of all":
		for f := range api.MaxFeds {
			x.n = 100*x.n + r.Time(f) + r.Bound(f)
		}
	}
	return x
}

// drawn draws numbers below a bound, from a seed on: the same ones of each seed.
func drawn(seed int) func(below int) int {
	state := uint64(seed)*2862933555777941757 + 3037000493
	return func(below int) int {
		state = state*6364136223846793005 + 1442695040888963407
		return int((state >> 33) % uint64(below))
	}
}

// often are names of calls; those that stand here more than once are drawn more often.
var often = strings.Fields("send send send send send ask ask look look look look look look retract retract subscribe ask-of-all regulate constrain")

// seldom are the others.
var seldom = strings.Fields("join resign publish unregulate unconstrain begin end end end")

// anyCall of one of n federates of r, now and then of nobody.
func anyCall(draw func(int) int, r *rti.Rti, n, classes int) call {
	f := draw(n)
	if draw(50) == 0 {
		f = []int{-1, api.MaxFeds}[draw(2)]
	}
	near := max(r.Time(f), 0) - 1 + draw(12)
	name := often[draw(len(often))]
	if draw(8) == 0 {
		name = seldom[draw(len(seldom))]
	}
	c := call{name: strings.ReplaceAll(name, "-", " "), f: f, a: draw(classes), b: draw(3)}
	switch c.name {
	case "send":
		c.b, c.c, c.d = draw(api.MaxBody), near+draw(4), draw(4)
	case "retract":
		c.a = draw(12)
	case "regulate":
		c.a = 1 + draw(4)
	case "ask":
		c.a, c.b = 1+draw(3), near
	}
	return c
}

// started are calls by which n federates begin.
func started(draw func(int) int, n, classes int) []call {
	var l []call
	for f := range n {
		l = append(l, call{name: "join", f: f}, call{name: "publish", f: f, a: draw(classes), b: 1}, call{name: "subscribe", f: f, a: draw(classes), b: 1})
		l = append(l, call{name: "publish", f: f, a: draw(classes), b: 1}, call{name: "subscribe", f: f, a: 0, b: draw(2)})
		if draw(4) > 0 {
			l = append(l, call{name: "regulate", f: f, a: 1 + draw(4)})
		}
		if draw(4) > 0 {
			l = append(l, call{name: "constrain", f: f})
		}
	}
	return l
}

// P21.3, W10: one that is never saved, one that is saved whenever it may be, and one that is loaded of it each time go on alike.
func TestGoesOn(t *testing.T) {
	parents := []int{-1, 0, 0, 2}
	saves, refusals, waiting := 0, 0, 0
	for run := range 120 {
		draw := drawn(run)
		n := 2 + draw(4)
		never, kept, other := made(t, parents), made(t, parents), made(t, parents)
		start := started(draw, n, len(parents))
		for i := range 300 {
			c := anyCall(draw, never, n, len(parents))
			if i < len(start) {
				c = start[i]
			}
			want := c.done(never)
			if a, b := c.done(kept), c.done(other); !a.same(want) || !b.same(want) {
				t.Fatalf("run %d: %v: %v, saved %v, loaded %v", run, c, want, a, b)
			}
			now := all(never)
			s, e := save.Save(kept)
			if e != api.OK {
				refusals++
			} else {
				saves++
				if s != withSeal(now) {
					t.Fatalf("run %d: %v: %q", run, c, s)
				}
				if strings.Contains(now, "\n-1,") {
					waiting++
				}
				other = loaded(t, s)
			}
			if all(kept) != now || all(other) != now {
				t.Fatalf("run %d, behind %v:\n%ssaved\n%sloaded\n%s", run, c, now, all(kept), all(other))
			}
		}
	}
	if saves < 5000 || refusals < 5000 || waiting < 4000 {
		t.Errorf("only %d saves, %d refused, %d of which something waits", saves, refusals, waiting)
	}
}

func made(t *testing.T, parents []int) *rti.Rti {
	t.Helper()
	r, e := rti.New(parents)
	done(t, e)
	return r
}

// P21.3, W10: one that was loaded once goes on without being saved again.
func TestGoesOnLong(t *testing.T) {
	parents := []int{-1, 0, 1, 1, -1}
	saves := 0
	for run := range 60 {
		draw := drawn(5000 + run)
		n := 3 + draw(4)
		r := made(t, parents)
		for _, c := range started(draw, n, len(parents)) {
			c.done(r)
		}
		for range 100 {
			anyCall(draw, r, n, len(parents)).done(r)
		}
		s, e := save.Save(r)
		for tries := 0; e != api.OK && tries < 300; tries++ {
			anyCall(draw, r, n, len(parents)).done(r)
			s, e = save.Save(r)
		}
		if e != api.OK {
			continue
		}
		saves++
		x := loaded(t, s)
		for range 300 {
			c := anyCall(draw, r, n, len(parents))
			if a, b := c.done(r), c.done(x); !a.same(b) || all(r) != all(x) {
				t.Fatalf("run %d: %v: %v, %v", run, c, a, b)
			}
		}
	}
	if saves < 40 {
		t.Errorf("only %d saves", saves)
	}
}

// P21.2: of whatever lines there is none, or one that tells just these.
func TestAnyLines(t *testing.T) {
	good, pending := 0, 0
	for run := range 4000 {
		draw := drawn(9000 + run)
		rows := rowsOf([]string{rich, asked, ofNobody}[draw(3)])
		for range 1 + draw(2) {
			row := rows[draw(len(rows))]
			row[draw(len(row))] = []string{"-1", "0", "1", "2", "3", "7", "9", strconv.Itoa(api.MaxTime), "", "%", "x", "%2C"}[draw(12)]
		}
		text := ""
		for _, row := range rows {
			text += strings.Join(row, ",") + "\n"
		}
		r, e := save.Load(withSeal(text))
		if e != api.OK {
			if r != nil || e != api.ErrForm {
				t.Fatalf("%q: %d", text, e)
			}
			continue
		}
		good++
		if all(r) != text {
			t.Fatalf("%q is loaded as\n%s", text, all(r))
		}
		s, e := save.Save(r)
		if e == api.ErrPending {
			pending++
		} else if e != api.OK || s != withSeal(text) {
			t.Fatalf("%q is saved as %q, %d", text, s, e)
		}
	}
	if good < 200 || pending < 50 || good-pending < 100 {
		t.Errorf("only %d, %d of which somebody has asked", good, pending)
	}
}
