package rti_test

import (
	"strconv"
	"testing"

	"paceline/api"
	"paceline/rti"
)

// seen is what somebody who looks on has seen of a federate, from when it joined on.
type seen struct {
	time, look, kind, ask int
	// Below floor nothing timed comes any more.
	floor int
}

// onlooker sees which calls are done and what they answer, and nothing else.
type onlooker struct {
	feds      [api.MaxFeds]seen
	came      map[[3]int]int // to whom, from whom, which number
	retracted map[[2]int]int // from whom, which number
	timed     int
}

// sees what was answered OK.
func (o *onlooker) sees(t *testing.T, r *rti.Rti, c call, got reply) {
	t.Helper()
	if got.e != api.OK {
		return
	}
	x := &o.feds[max(0, min(c.f, api.MaxFeds-1))]
	switch c.name {
	case "join", "resign":
		*x = seen{}
	case "regulate":
		x.look = c.a
	case "unregulate":
		x.look = 0
	case "ask":
		x.kind, x.ask = c.a, c.b
	case "send":
		// W7
		if c.d > 0 && x.look > 0 && c.c < sum(x.time, x.look) {
			t.Fatalf("%v is taken of who stands at %d, with lookahead %d", c, x.time, x.look)
		}
	case "retract":
		o.retracted[[2]int{c.f, c.a}] = 1
		// W8
		if e := r.Retract(c.f, c.a); e != api.ErrHandle {
			t.Fatalf("%v once more: %d", c, e)
		}
	case "look":
		o.looks(t, c.f, x, got.given)
	}
	// W6
	for f := range o.feds {
		if at := r.Time(f); at >= 0 && at != o.feds[f].time {
			t.Fatalf("behind %v: the time of %d is %d, not %d", c, f, at, o.feds[f].time)
		}
	}
}

// looks: f was given that.
func (o *onlooker) looks(t *testing.T, f int, x *seen, g rti.Given) {
	t.Helper()
	for _, m := range g.Plain {
		// What has no time comes as often as it is sent; of what has one, none of these tests sends at 0.
		if m.Key.T > 0 {
			o.comes(t, f, m)
		}
	}
	last := -1
	for i, m := range g.Timed {
		o.comes(t, f, m)
		o.timed++
		// W5
		if m.Key.T < x.floor {
			t.Fatalf("%v comes to %d, of whom nothing below %d is left", m, f, x.floor)
		}
		// W8
		if o.retracted[[2]int{m.Key.From, m.Key.Seq}] > 0 {
			t.Fatalf("%v was retracted", m)
		}
		if i > 0 && byKey(g.Timed[i-1], m) >= 0 {
			t.Fatalf("%v behind %v", m, g.Timed[i-1])
		}
		last = m.Key.T
	}
	if !g.Granted {
		// W6
		if g.Time != x.time || len(g.Timed) > 0 {
			t.Fatalf("%v, but %d stands at %d", g, f, x.time)
		}
		return
	}
	// W6
	if x.kind == 0 || g.Time > x.ask || g.Time < x.time || x.kind != fqr && last > g.Time {
		t.Fatalf("%v, but %d, at %d, asked for %d, %d", g, f, x.time, x.kind, x.ask)
	}
	x.floor = g.Time
	if x.kind != fqr {
		x.floor++
	}
	x.time, x.kind, x.ask = g.Time, 0, 0
}

// comes: a message with a time comes to f. (W8)
func (o *onlooker) comes(t *testing.T, f int, m api.Msg) {
	t.Helper()
	o.came[[3]int{f, m.Key.From, m.Key.Seq}]++
	if m.To != f || o.came[[3]int{f, m.Key.From, m.Key.Seq}] > 1 {
		t.Fatalf("%v comes to %d again", m, f)
	}
}

// W5 to W8: whatever is called, in whatever order. (W9 is held by both.)
func TestWhole(t *testing.T) {
	parents := []int{-1, 0, 0}
	timed := 0
	for run := range 250 {
		draw := drawn(10_000 + run)
		n := 2 + draw(4)
		// The model only steers what is drawn.
		r, m := made(t, parents...), newModel(parents)
		o := &onlooker{came: map[[3]int]int{}, retracted: map[[2]int]int{}}
		act := func(c call) {
			t.Helper()
			if c.name == "send" && c.d > 0 && c.c == 0 || c.name == "retract" && m.asPlain(c.f, c.a) {
				return
			}
			m.do(c)
			o.sees(t, r, c, c.done(r))
		}
		for _, c := range started(draw, n) {
			act(c)
		}
		for range 400 {
			act(anyCall(draw, m, n))
		}
		timed += o.timed
	}
	if timed < 500 {
		t.Errorf("only %d timed messages", timed)
	}
}

// W10: what a save tells goes on as it would have: with other calls, it is still the same.
func TestSavedGoesOn(t *testing.T) {
	parents := []int{-1, 0, 0, 2}
	saves := 0
	for run := range 100 {
		draw := drawn(20_000 + run)
		n := 2 + draw(4)
		r, m := made(t, parents...), newModel(parents)
		for _, c := range started(draw, n) {
			m.do(c)
			c.done(r)
		}
		for range 60 {
			c := anyCall(draw, m, n)
			m.do(c)
			c.done(r)
		}
		if m.saving {
			m.do(call{name: "end"})
			call{name: "end"}.done(r)
		}
		if r.Begin() != api.OK {
			continue
		}
		saves++
		if e := r.Join(7); e != api.ErrSaving {
			t.Fatal(e)
		}
		rows, e := r.End()
		s := from(t, rows)
		for range 60 {
			c := anyCall(draw, m, n)
			m.do(c)
			if a, b := c.done(r), c.done(s); e != api.OK || !a.same(b) || all(r) != all(s) {
				t.Fatalf("run %d: %v: %v, %v", run, c, a, b)
			}
		}
	}
	if saves < 10 {
		t.Errorf("only %d saves", saves)
	}
}

// P20.9, R1: of whatever rows there is none, or one whose Rows they are, of which every call ends.
func TestFromAnyRows(t *testing.T) {
	good := 0
	for run := range 4000 {
		draw := drawn(30_000 + run)
		rows := rowsOf(rich)
		for range 1 + draw(3) {
			i := draw(len(rows))
			switch draw(8) {
			case 0:
				rows[i] = rows[draw(len(rows))]
			case 1:
				rows[i] = rows[i][:draw(len(rows[i])+1)]
			default:
				if len(rows[i]) > 0 {
					rows[i] = append([]string{}, rows[i]...)
					rows[i][draw(len(rows[i]))] = strconv.Itoa([]int{-1, 0, 1, 2, 3, 4, 7, 8, 9, api.MaxTime, api.Inf}[draw(11)])
				}
			}
		}
		r, e := rti.From(rows)
		if e != api.OK {
			if r != nil || e != api.ErrForm {
				t.Fatalf("From(%v): %d", rows, e)
			}
			continue
		}
		good++
		text := ""
		for _, row := range rows {
			for j, field := range row {
				if j > 0 {
					text += ","
				}
				text += field
			}
			text += "\n"
		}
		if all(r) != text {
			t.Fatalf("From\n%sis\n%s", text, all(r))
		}
		m := newModel([]int{-1, 0, 0, 1})
		for range 40 {
			anyCall(draw, m, 8).done(r)
		}
	}
	if good < 400 {
		t.Errorf("only %d", good)
	}
}
