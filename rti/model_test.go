package rti_test

import (
	"slices"
	"strconv"
	"testing"

	"paceline/api"
	"paceline/rti"
)

// body of a federate, as the model keeps it.
type member struct {
	is                    bool
	time, look, kind, ask int
	constrained           bool
	pubs, subs            []bool
	timed, plain          []api.Msg
}

// model does what the chapter says, without the layers beneath.
type model struct {
	parents []int
	feds    [api.MaxFeds]member
	sent    [api.MaxFeds]int
	saving  bool
}

func newModel(parents []int) *model {
	m := &model{parents: parents}
	for f := range m.feds {
		m.feds[f] = m.nobody()
	}
	return m
}

func (m *model) nobody() member {
	return member{pubs: make([]bool, len(m.parents)), subs: make([]bool, len(m.parents))}
}

// sum is t and d later, or Inf behind MaxTime.
func sum(t, d int) int {
	if t+d > api.MaxTime {
		return api.Inf
	}
	return t + d
}

// first is the time of the first timed message that waits for f.
func (m *model) first(f int) int {
	least := api.Inf
	for _, x := range m.feds[f].timed {
		if x.Key.T < least {
			least = x.Key.T
		}
	}
	return least
}

// boundOf is the least output of others.
func (m *model) boundOf(outputs []int, f int) int {
	least := api.Inf
	for other, x := range m.feds {
		if other != f && x.look > 0 && outputs[other] < least {
			least = outputs[other]
		}
	}
	return least
}

// outputs are lowered from Inf on, till all of them are what they come to.
func (m *model) outputs() []int {
	outputs := slices.Repeat([]int{api.Inf}, api.MaxFeds)
	for changed := true; changed; {
		changed = false
		for f, x := range m.feds {
			if x.look == 0 {
				continue
			}
			base := x.time
			if x.kind > 0 {
				base = x.ask
			}
			if x.kind > 1 && x.constrained {
				for _, t := range []int{m.first(f), m.boundOf(outputs, f)} {
					if t < base {
						base = t
					}
				}
				if base < x.time {
					base = x.time
				}
			}
			if out := sum(base, x.look); out != outputs[f] {
				outputs[f], changed = out, true
			}
		}
	}
	return outputs
}

func (m *model) bound(f int) int {
	return m.boundOf(m.outputs(), f)
}

// hears tells whether f subscribes to c, or to a class above it.
func (m *model) hears(f, c int) bool {
	for ; c >= 0; c = m.parents[c] {
		if m.feds[f].subs[c] {
			return true
		}
	}
	return false
}

// ahead is what is asked ahead of all else.
func (m *model) ahead(f int) api.Errno {
	switch {
	case f < 0 || f >= api.MaxFeds:
		return api.ErrArg
	case !m.feds[f].is:
		return api.ErrMember
	case m.saving:
		return api.ErrSaving
	}
	return api.OK
}

// call is one of the services, with its numbers.
type call struct {
	name          string
	f, a, b, c, d int
}

// reply is all that a call answers.
type reply struct {
	e     api.Errno
	n     int
	given rti.Given
}

func (a reply) same(b reply) bool {
	return a.e == b.e && a.n == b.n && a.given.Granted == b.given.Granted && a.given.Time == b.given.Time &&
		slices.Equal(a.given.Plain, b.given.Plain) && slices.Equal(a.given.Timed, b.given.Timed)
}

// done has it done by the program.
func (c call) done(r *rti.Rti) reply {
	var x reply
	switch c.name {
	case "join":
		x.e = r.Join(c.f)
	case "resign":
		x.e = r.Resign(c.f)
	case "publish":
		x.e = r.Publish(c.f, c.a, c.b == 1)
	case "subscribe":
		x.e = r.Subscribe(c.f, c.a, c.b == 1)
	case "regulate":
		x.e = r.Regulate(c.f, c.a)
	case "unregulate":
		x.e = r.Unregulate(c.f)
	case "constrain":
		x.e = r.Constrain(c.f)
	case "unconstrain":
		x.e = r.Unconstrain(c.f)
	case "send":
		x.n, x.e = r.Send(c.f, c.a, c.b, c.c, c.d > 0)
	case "retract":
		x.e = r.Retract(c.f, c.a)
	case "ask":
		x.e = r.Ask(c.f, c.a, c.b)
	case "look":
		x.given, x.e = r.Look(c.f)
	case "begin":
		x.e = r.Begin()
	case "end":
		_, x.e = r.End()
	}
	return x
}

// do has it done by the model.
func (m *model) do(c call) reply {
	switch c.name {
	case "begin":
		return reply{e: m.begin()}
	case "end":
		if !m.saving {
			return reply{e: api.ErrNoSave}
		}
		m.saving = false
		return reply{}
	case "join":
		return reply{e: m.join(c.f)}
	}
	if e := m.ahead(c.f); e != api.OK {
		return reply{e: e}
	}
	switch x := &m.feds[c.f]; c.name {
	case "resign":
		*x = m.nobody()
	case "publish":
		return reply{e: m.turn(x.pubs, c.a, c.b == 1)}
	case "subscribe":
		return reply{e: m.turn(x.subs, c.a, c.b == 1)}
	case "regulate":
		return reply{e: m.regulate(c.f, c.a)}
	case "unregulate":
		if x.look == 0 {
			return reply{e: api.ErrNotReg}
		}
		if x.kind > 0 {
			return reply{e: api.ErrPending}
		}
		x.look = 0
	case "constrain":
		return reply{e: m.constrain(c.f)}
	case "unconstrain":
		return reply{e: m.unconstrain(c.f)}
	case "send":
		n, e := m.send(c.f, c.a, c.b, c.c, c.d > 0)
		return reply{n: n, e: e}
	case "retract":
		return reply{e: m.retract(c.f, c.a)}
	case "ask":
		return reply{e: m.ask(c.f, c.a, c.b)}
	case "look":
		return reply{given: m.look(c.f)}
	}
	return reply{}
}

func (m *model) begin() api.Errno {
	if m.saving {
		return api.ErrSaving
	}
	for _, x := range m.feds {
		if x.kind > 0 {
			return api.ErrPending
		}
	}
	m.saving = true
	return api.OK
}

func (m *model) join(f int) api.Errno {
	switch {
	case f < 0 || f >= api.MaxFeds:
		return api.ErrArg
	case m.saving:
		return api.ErrSaving
	case m.feds[f].is:
		return api.ErrJoined
	}
	m.feds[f].is = true
	return api.OK
}

func (m *model) turn(classes []bool, c int, is bool) api.Errno {
	if c < 0 || c >= len(classes) {
		return api.ErrClass
	}
	classes[c] = is
	return api.OK
}

func (m *model) regulate(f, look int) api.Errno {
	x := &m.feds[f]
	switch {
	case x.look > 0:
		return api.ErrRegul
	case x.kind > 0:
		return api.ErrPending
	case look < 1 || look > maxLook:
		return api.ErrLook
	}
	for other, y := range m.feds {
		if other != f && y.is && y.constrained && y.time >= sum(x.time, look) {
			return api.ErrPast
		}
	}
	x.look = look
	return api.OK
}

func (m *model) constrain(f int) api.Errno {
	x := &m.feds[f]
	switch {
	case x.constrained:
		return api.ErrConstr
	case x.kind > 0:
		return api.ErrPending
	case m.bound(f) <= x.time:
		return api.ErrPast
	}
	x.constrained = true
	return api.OK
}

func (m *model) unconstrain(f int) api.Errno {
	x := &m.feds[f]
	switch {
	case !x.constrained:
		return api.ErrNotCon
	case x.kind > 0:
		return api.ErrPending
	case len(x.plain)+len(x.timed) > api.MaxQueue:
		return api.ErrFull
	}
	x.constrained = false
	x.plain = append(x.plain, x.timed...)
	x.timed = nil
	return api.OK
}

func (m *model) send(f, c, body, t int, timed bool) (int, api.Errno) {
	x := m.feds[f]
	switch {
	case c < 0 || c >= len(m.parents):
		return 0, api.ErrClass
	case !x.pubs[c]:
		return 0, api.ErrPublish
	case body < 0 || body > 999:
		return 0, api.ErrArg
	case timed && (t < 0 || t > api.MaxTime):
		return 0, api.ErrTime
	case timed && x.look > 0 && t < m.outputs()[f]:
		return 0, api.ErrEarly
	}
	if !timed {
		t = 0
	}
	for try := range 2 {
		for to := range m.feds {
			y := &m.feds[to]
			if to == f || !m.hears(to, c) {
				continue
			}
			queue := &y.plain
			if timed && x.look > 0 && y.constrained {
				queue = &y.timed
			}
			if try == 0 && len(*queue) >= 64 {
				return 0, api.ErrFull
			}
			if try == 1 {
				*queue = append(*queue, message(t, f, m.sent[f], to, c, body))
			}
		}
	}
	for to := range m.feds {
		slices.SortStableFunc(m.feds[to].timed, byKey)
	}
	if !timed {
		return 0, api.OK
	}
	m.sent[f]++
	return m.sent[f] - 1, api.OK
}

func byKey(a, b api.Msg) int {
	for _, d := range []int{a.Key.T - b.Key.T, a.Key.From - b.Key.From, a.Key.Seq - b.Key.Seq} {
		if d != 0 {
			return d
		}
	}
	return 0
}

func (m *model) retract(f, h int) api.Errno {
	e := api.ErrHandle
	for to := range m.feds {
		l := &m.feds[to].timed
		for i := len(*l) - 1; i >= 0; i-- {
			if (*l)[i].Key.From == f && (*l)[i].Key.Seq == h {
				*l = append((*l)[:i:i], (*l)[i+1:]...)
				e = api.OK
			}
		}
	}
	return e
}

// asPlain tells whether the message of f with the number h waits for somebody as a plain one.
func (m *model) asPlain(f, h int) bool {
	for _, x := range m.feds {
		for _, y := range x.plain {
			if y.Key.From == f && y.Key.Seq == h && h < m.sent[f] {
				return true
			}
		}
	}
	return false
}

func (m *model) ask(f, kind, t int) api.Errno {
	x := &m.feds[f]
	switch {
	case kind < 1 || kind > 3:
		return api.ErrArg
	case x.kind > 0:
		return api.ErrPending
	case t < 0 || t > api.MaxTime:
		return api.ErrTime
	case t < x.time:
		return api.ErrPast
	}
	x.kind, x.ask = kind, t
	return api.OK
}

func (m *model) look(f int) rti.Given {
	x := &m.feds[f]
	g := rti.Given{Plain: x.plain, Time: x.time}
	x.plain = nil
	bound := api.Inf
	if x.constrained {
		bound = m.bound(f)
	}
	// Up to which time it goes, and up to which one messages come; -1: it waits.
	to, upTo := -1, -1
	next := m.first(f)
	switch {
	case x.kind == 1 && bound > x.ask, x.kind == 2 && next > x.ask && bound > x.ask:
		to, upTo = x.ask, x.ask
	case x.kind == 2 && next <= x.ask && bound > next:
		to, upTo = next, next
	case x.kind == 3:
		to, upTo = max(x.time, min(x.ask, bound, next)), api.Inf
	}
	if to < 0 {
		return g
	}
	n := 0
	for n < len(x.timed) && x.timed[n].Key.T <= upTo {
		n++
	}
	g.Granted, g.Time, g.Timed = true, to, x.timed[:n:n]
	x.time, x.kind, x.ask, x.timed = to, 0, 0, x.timed[n:len(x.timed):len(x.timed)]
	return g
}

// rows are all of it, as a text.
func (m *model) rows() string {
	text := row(m.parents...)
	for f, x := range m.feds {
		bits := map[bool]int{true: 1}
		text += row(bits[x.is], x.time, x.look, bits[x.constrained], x.kind, x.ask, m.sent[f])
		for _, classes := range [][]bool{x.pubs, x.subs} {
			l := []int{-1}
			for c, is := range classes {
				if is {
					l = append(l, c)
				}
			}
			text += row(l...)
		}
		for _, queue := range [][]api.Msg{x.timed, x.plain} {
			l := []int{-1}
			for _, y := range queue {
				l = append(l, y.Key.T, y.Key.From, y.Key.Seq, y.To, y.Class, y.Body)
			}
			text += row(l...)
		}
	}
	return text
}

func row(l ...int) string {
	text := ""
	for i, n := range l {
		if i > 0 {
			text += ","
		}
		text += strconv.Itoa(n)
	}
	return text + "\n"
}

// drawn draws numbers below a bound, from a seed on: the same ones of each seed.
func drawn(seed int) func(below int) int {
	state := uint64(seed)*2862933555777941757 + 3037000493
	return func(below int) int {
		state = state*6364136223846793005 + 1442695040888963407
		return int((state >> 33) % uint64(below))
	}
}

func (m *model) isMember(f int) bool {
	return f >= 0 && f < api.MaxFeds && m.feds[f].is
}

// names of calls; those that stand here more than once are drawn more often.
func names() []string {
	var often []string
	for range 6 {
		often = append(often, "send", "send", "ask", "look", "look", "retract")
	}
	return append(often, "join", "resign", "publish", "subscribe", "subscribe", "regulate", "unregulate", "constrain", "constrain", "unconstrain", "begin", "end")
}

// some federate of n, now and then none.
func some(draw func(int) int, n int) int {
	if draw(60) == 0 {
		return []int{-1, 8, 7, 1 << 40}[draw(4)]
	}
	return draw(n)
}

// near is a time near that of f, now and then an odd one.
func near(draw func(int) int, m *model, f int) int {
	if draw(40) == 0 {
		return []int{-1, 0, api.MaxTime - 1, api.MaxTime, api.MaxTime + 1, api.Inf}[draw(6)]
	}
	t := 0
	if f >= 0 && f < api.MaxFeds {
		t = m.feds[f].time
	}
	return t - 1 + draw(14)
}

// anyCall of n federates.
func anyCall(draw func(int) int, m *model, n int) call {
	all := names()
	c := call{name: all[draw(len(all))], f: some(draw, n)}
	// Else little is done by those that are no members, or while a save is under way.
	switch {
	case m.saving && draw(4) == 0:
		c.name = "end"
	case c.name == "resign" && draw(3) > 0:
		c.name = "look"
	case m.isMember(c.f):
	case draw(3) > 0:
		c.name = "join"
	}
	switch c.name {
	case "publish", "subscribe":
		c.a, c.b = draw(len(m.parents)+2)-1, min(1, draw(4))
		if draw(8) > 0 {
			c.a = min(max(c.a, 0), len(m.parents)-1)
		}
	case "regulate":
		c.a = []int{0, 1, 2, 3, 4, 6, maxLook, maxLook + 1}[draw(8)]
	case "send":
		c.a, c.b, c.c, c.d = draw(len(m.parents)), draw(1000), near(draw, m, c.f), draw(5)
		if m.isMember(c.f) && draw(3) > 0 {
			c.a = max(0, slices.Index(m.feds[c.f].pubs, true))
		}
		if draw(30) == 0 {
			c.a, c.b = draw(len(m.parents)+2)-1, []int{-1, 0, 999, 1000}[draw(4)]
		}
	case "retract":
		c.a = draw(4)
		if c.f >= 0 && c.f < api.MaxFeds {
			c.a = m.sent[c.f] - draw(4)
		}
	case "ask":
		c.a, c.b = 1+draw(3), near(draw, m, c.f)
		if draw(30) == 0 {
			c.a = []int{-1, 0, 4}[draw(3)]
		}
	}
	return c
}

// started has n federates that are members, so that there is something to do.
func started(draw func(int) int, n int) []call {
	var l []call
	most := draw(4)
	for f := range n {
		l = append(l, call{name: "join", f: f}, call{name: "publish", f: f, a: draw(2), b: 1}, call{name: "subscribe", f: f, a: draw(2), b: 1})
		if draw(4) >= most {
			l = append(l, call{name: "regulate", f: f, a: 1 + draw(4)})
		}
		if draw(4) <= most {
			l = append(l, call{name: "constrain", f: f})
		}
	}
	return l
}

// both does a call with both, and holds all that they tell against one another.
func both(t *testing.T, r *rti.Rti, m *model, c call) reply {
	t.Helper()
	was := m.rows()
	want := m.do(c)
	if got := c.done(r); !got.same(want) {
		t.Fatalf("%v: %v, not %v; behind\n%s", c, got, want, was)
	}
	if got := all(r); got != m.rows() {
		t.Fatalf("behind %v:\n%snot\n%s", c, got, m.rows())
	}
	if want.e != api.OK && m.rows() != was {
		t.Fatalf("%v, refused, changes\n%s", c, was)
	}
	return want
}

// told holds each Time and Bound against the model.
func told(t *testing.T, r *rti.Rti, m *model) {
	t.Helper()
	for f := -1; f <= api.MaxFeds; f++ {
		at, bound := -1, -1
		if f >= 0 && f < api.MaxFeds && m.feds[f].is {
			at, bound = m.feds[f].time, m.bound(f)
		}
		if r.Time(f) != at || r.Bound(f) != bound {
			t.Fatalf("of %d: %d, %d, not %d, %d; of\n%s", f, r.Time(f), r.Bound(f), at, bound, all(r))
		}
	}
}

// P20.1 to P20.9: whatever is called, in whatever order, it is as of the model; and goes on as it is from its rows on.
func TestAsTheModel(t *testing.T) {
	oks, errs := map[string]int{}, map[api.Errno]int{}
	for run := range 400 {
		draw := drawn(run)
		parents := [][]int{{-1, 0}, {-1, -1, 0, 1}, {-1, 0, 1, 1, -1}}[draw(3)]
		n := 2 + draw(4)
		r, m := made(t, parents...), newModel(parents)
		for _, c := range started(draw, n) {
			both(t, r, m, c)
		}
		for range 200 {
			c := anyCall(draw, m, n)
			// What was sent as timed to one and waits as plain for another one: there the chapter may be read in two ways.
			if c.name == "retract" && m.asPlain(c.f, c.a) {
				continue
			}
			got := both(t, r, m, c)
			errs[got.e]++
			if got.e == api.OK {
				oks[c.name]++
				if got.given.Granted {
					oks["granted"]++
				}
				if len(got.given.Timed) > 0 {
					oks["timed"]++
				}
			}
			told(t, r, m)
			if draw(20) == 0 && !m.saving {
				r = from(t, r.Rows())
			}
		}
	}
	t.Log(oks, errs)
	for _, name := range append(names(), "granted", "timed") {
		if oks[name] < 200 {
			t.Errorf("only %d of %s", oks[name], name)
		}
	}
	for _, e := range []api.Errno{api.ErrArg, api.ErrLook, api.ErrClass, api.ErrEarly, api.ErrJoined, api.ErrMember, api.ErrRegul, api.ErrNotReg, api.ErrConstr, api.ErrNotCon, api.ErrPending, api.ErrPast, api.ErrTime, api.ErrHandle, api.ErrPublish, api.ErrSaving, api.ErrNoSave} {
		if errs[e] < 50 {
			t.Errorf("only %d of error %d", errs[e], e)
		}
	}
}
