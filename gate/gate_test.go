package gate_test

import (
	"math"
	"slices"
	"testing"

	"paceline/api"
	"paceline/gate"
)

func key(t, from, seq int) api.Key { return api.Key{T: t, From: from, Seq: seq} }

// pair is a message, and what caused it.
type pair struct {
	cause api.Key
	msg   api.Msg
}

// message is one whose parts mark tells from those of each other one.
func message(mark int) api.Msg {
	return api.Msg{Key: key(1000+mark, 2000+mark, 3000+mark), To: 100 + mark, Class: 200 + mark, Body: 300 + mark}
}

// at is the message of that mark, caused at the time t.
func at(t, mark int) pair { return pair{key(t, 0, 0), message(mark)} }

// msgs are the messages of l.
func msgs(l ...pair) []api.Msg {
	var all []api.Msg
	for _, p := range l {
		all = append(all, p.msg)
	}
	return all
}

// told: what a call of that name answered are just the messages of want.
func told(t *testing.T, call string, got []api.Msg, want ...pair) {
	t.Helper()
	if !slices.Equal(got, msgs(want...)) {
		t.Errorf("%s: %v, not %v", call, got, msgs(want...))
	}
}

// hold: g answers that error.
func hold(t *testing.T, g *gate.Gate, p pair, want api.Errno) {
	t.Helper()
	if got := g.Hold(p.cause, p.msg); got != want {
		t.Errorf("Hold caused by %v: %d, not %d", p.cause, got, want)
	}
}

// retract: g answers that number and that error.
func retract(t *testing.T, g *gate.Gate, k api.Key, many int, want api.Errno) {
	t.Helper()
	if n, got := g.Retract(k); n != many || got != want {
		t.Errorf("Retract of %v: %d, %d, not %d, %d", k, n, got, many, want)
	}
}

// filled is a gate that holds these.
func filled(t *testing.T, l ...pair) *gate.Gate {
	t.Helper()
	g := gate.New()
	for _, p := range l {
		hold(t, g, p, api.OK)
	}
	return g
}

// holds: g tells that floor, and just these messages.
func holds(t *testing.T, g *gate.Gate, floor int, want ...pair) {
	t.Helper()
	if got := g.Floor(); got != floor {
		t.Errorf("Floor: %d, not %d", got, floor)
	}
	told(t, "Held", g.Held(), want...)
}

// ahead tells whether a stands ahead of b, by another way than the program's.
func ahead(a, b api.Key) bool {
	return a.T < b.T || a.T == b.T && (a.From < b.From || a.From == b.From && a.Seq < b.Seq)
}

// keysAround are keys of few times, federates and numbers, in order, with those around all others at both ends.
func keysAround() []api.Key {
	keys := []api.Key{key(math.MinInt, math.MinInt, math.MinInt), key(-1, 5, 5)}
	for t := range 4 {
		for from := -1; from < 2; from++ {
			for seq := -1; seq < 2; seq++ {
				keys = append(keys, key(t, from, seq))
			}
		}
	}
	return append(keys, key(api.Inf, 0, 0), key(math.MaxInt, math.MaxInt, math.MaxInt))
}

// shuffled are messages, two of each cause that may be, that come in no order of their causes.
func shuffled() []pair {
	var all []pair
	keys := keysAround()
	// 7 and how many keys there are have no part in common: each is met twice.
	for i := range 2 * len(keys) {
		if k := keys[7*i%len(keys)]; k.T >= 0 {
			all = append(all, pair{k, message(i)})
		}
	}
	return all
}

// byCause are those of l in the order of their causes, those of one cause as they came; by another way than the program's.
func byCause(l []pair) []pair {
	var all []pair
	for _, p := range l {
		i := len(all)
		for i > 0 && ahead(p.cause, all[i-1].cause) {
			i--
		}
		all = slices.Insert(all, i, p)
	}
	return all
}

// parted are those of l that go, and those that stay.
func parted(l []pair, goes func(pair) bool) (gone, stay []pair) {
	for _, p := range l {
		if goes(p) {
			gone = append(gone, p)
		} else {
			stay = append(stay, p)
		}
	}
	return gone, stay
}

// The chapter's example.
func TestExample(t *testing.T) {
	g := filled(t, at(5, 1), at(3, 2))
	told(t, "Drop", g.Drop(key(4, 0, 0)), at(5, 1))
	told(t, "Open", g.Open(9), at(3, 2))
	holds(t, g, 9)
}

// P14.1
func TestNew(t *testing.T) {
	g := gate.New()
	holds(t, g, 0)
	told(t, "Drop", g.Drop(key(math.MinInt, math.MinInt, math.MinInt)))
	told(t, "Open", g.Open(0))
	retract(t, g, api.Key{}, 0, api.ErrHandle)
	holds(t, g, 0)
	hold(t, g, at(-1, 1), api.ErrEarly)
	holds(t, g, 0)
	hold(t, g, at(0, 1), api.OK)
	holds(t, g, 0, at(0, 1))
}

// P14.1, with R3: two gates have nothing in common.
func TestGatesAreTheirOwn(t *testing.T) {
	a, b := filled(t, at(1, 1), at(3, 2)), filled(t, at(1, 3))
	told(t, "Open", a.Open(2), at(1, 1))
	hold(t, b, at(0, 4), api.OK)
	holds(t, a, 2, at(3, 2))
	holds(t, b, 0, at(1, 3), at(0, 4))
	holds(t, gate.New(), 0)
}

// P14.2: below the floor nothing causes, at it and above it all, whatever its number.
func TestHoldEarly(t *testing.T) {
	low, high := math.MinInt, math.MaxInt
	for _, floor := range []int{0, 1, 7, api.MaxTime, api.MaxTime + 1, api.Inf, api.Inf + 1, high} {
		for _, early := range []int{low, -api.Inf, -1, floor / 2, floor - 1} {
			if early >= floor {
				continue
			}
			g := gate.New()
			g.Open(floor)
			hold(t, g, pair{key(early, high, high), message(1)}, api.ErrEarly)
			holds(t, g, floor)
		}
		for _, fits := range []int{floor, max(floor, api.Inf), high} {
			g, p := gate.New(), pair{key(fits, low, low), message(2)}
			g.Open(floor)
			hold(t, g, p, api.OK)
			holds(t, g, floor, p)
		}
	}
}

// P14.2: of the message nothing is asked: not its time, not whether one of its key, or the same one, is held.
func TestHoldWhateverTheMessage(t *testing.T) {
	g := gate.New()
	g.Open(6)
	odd := pair{key(6, 0, 0), api.Msg{Key: key(-5, -1, math.MinInt), To: -1, Class: 99, Body: api.MaxBody}}
	twice, other := at(9, 3), at(9, 3)
	other.msg.Body++
	all := []pair{odd, twice, twice, other, {key(8, 0, 0), twice.msg}}
	for i, p := range all {
		hold(t, g, p, api.OK)
		holds(t, g, 6, all[:i+1]...)
	}
	told(t, "Open", g.Open(api.Inf), odd, all[4], twice, twice, other)
}

// P14.2: there is room for 256 messages, and again where some went, by whatever call.
func TestHoldFull(t *testing.T) {
	var all []pair
	g := gate.New()
	for i := range 256 {
		all = append(all, at(10+i, i))
		hold(t, g, all[i], api.OK)
		holds(t, g, 0, all...)
	}
	refused := func() {
		t.Helper()
		hold(t, g, at(1000, 1000), api.ErrFull)
		holds(t, g, g.Floor(), all...)
	}
	fill := func(mark int) {
		t.Helper()
		all = append(all, at(500+mark, mark))
		hold(t, g, all[len(all)-1], api.OK)
		refused()
	}
	refused()
	told(t, "Open", g.Open(11), all[0])
	all = all[1:]
	fill(300)
	told(t, "Drop", g.Drop(key(800, 0, 0)), all[255])
	all = all[:255]
	fill(301)
	retract(t, g, all[7].msg.Key, 1, api.OK)
	all = slices.Delete(all, 7, 8)
	fill(302)
}

// P14.2: what is below the floor is early, be there room or not.
func TestHoldEarlyAheadOfFull(t *testing.T) {
	g := gate.New()
	g.Open(5)
	for i := range 4 * api.MaxQueue {
		hold(t, g, at(5, i), api.OK)
	}
	hold(t, g, at(4, 1), api.ErrEarly)
	hold(t, g, at(5, 1), api.ErrFull)
}

// P14.2: Held tells the order in which they came, whatever went between, and changes nothing.
func TestHeld(t *testing.T) {
	g := filled(t, at(9, 1), at(2, 2), at(9, 3), at(4, 4), at(2, 5))
	holds(t, g, 0, at(9, 1), at(2, 2), at(9, 3), at(4, 4), at(2, 5))
	holds(t, g, 0, at(9, 1), at(2, 2), at(9, 3), at(4, 4), at(2, 5))
	retract(t, g, message(3).Key, 1, api.OK)
	hold(t, g, at(3, 6), api.OK)
	holds(t, g, 0, at(9, 1), at(2, 2), at(4, 4), at(2, 5), at(3, 6))
	told(t, "Open", g.Open(3), at(2, 2), at(2, 5))
	hold(t, g, at(3, 7), api.OK)
	holds(t, g, 3, at(9, 1), at(4, 4), at(3, 6), at(3, 7))
	told(t, "Drop", g.Drop(key(4, 0, 0)), at(9, 1), at(4, 4))
	holds(t, g, 3, at(3, 6), at(3, 7))
}

// P14.3: Drop of each key, of a cause or of none, by all of its parts; as they came, not by their causes.
func TestDrop(t *testing.T) {
	all := shuffled()
	for _, k := range keysAround() {
		g := filled(t, all...)
		gone, stay := parted(all, func(p pair) bool { return !ahead(p.cause, k) })
		told(t, "Drop", g.Drop(k), gone...)
		holds(t, g, 0, stay...)
		told(t, "Drop again", g.Drop(k))
		holds(t, g, 0, stay...)
	}
}

// P14.3: the cause tells who is dropped, not the message's own key.
func TestDropByCause(t *testing.T) {
	early, late := pair{key(2, 0, 0), message(1)}, pair{key(8, 0, 0), message(2)}
	early.msg.Key, late.msg.Key = key(9, 0, 0), key(1, 0, 0)
	g := filled(t, early, late)
	told(t, "Drop", g.Drop(key(5, 0, 0)), late)
	holds(t, g, 0, early)
	told(t, "Open", g.Open(5), early)
}

// P14.3: Drop leaves the floor: what was dropped may be caused again.
func TestDropLeavesTheFloor(t *testing.T) {
	g := filled(t, at(4, 1), at(6, 2))
	g.Open(3)
	told(t, "Drop", g.Drop(key(0, 0, 0)), at(4, 1), at(6, 2))
	holds(t, g, 3)
	hold(t, g, at(3, 3), api.OK)
	told(t, "Drop", g.Drop(key(100, 0, 0)))
	holds(t, g, 3, at(3, 3))
}

// P14.3: Open of each time: those whose causes are at it stay, whoever sent these.
func TestOpen(t *testing.T) {
	all := shuffled()
	for _, to := range []int{math.MinInt, -api.Inf, -1, 0, 1, 2, 3, 4, api.MaxTime, api.Inf, api.Inf + 1, math.MaxInt} {
		g := filled(t, all...)
		gone, stay := parted(all, func(p pair) bool { return p.cause.T < to })
		told(t, "Open", g.Open(to), byCause(gone)...)
		holds(t, g, max(to, 0), stay...)
		told(t, "Open again", g.Open(to))
		holds(t, g, max(to, 0), stay...)
	}
}

// P14.3: those of one cause go as they came, however many they are, and whatever their own keys are.
func TestOpenOneCause(t *testing.T) {
	var all []pair
	for i := range 4 * api.MaxQueue {
		// The messages' own keys fall.
		all = append(all, pair{key(3-i%3, i%2, 0), message(900 - i)})
	}
	g := filled(t, all...)
	told(t, "Open", g.Open(4), byCause(all)...)
	holds(t, g, 4)
}

// P14.3: the floor rises without messages, too, and never falls.
func TestFloor(t *testing.T) {
	g, floor := filled(t, at(20, 1)), 0
	for _, to := range []int{-3, 4, 2, math.MinInt, 4, 5, 0, 20, 19, -1} {
		floor = max(floor, to)
		told(t, "Open", g.Open(to))
		holds(t, g, floor, at(20, 1))
	}
	told(t, "Open", g.Open(21), at(20, 1))
	holds(t, g, 21)
	told(t, "Open", g.Open(30))
	told(t, "Open", g.Open(29))
	holds(t, g, 30)
}

// P14.4: all messages of the key go, whatever caused them; the others stay in their order.
func TestRetract(t *testing.T) {
	k := key(5, 1, 2)
	of := func(k api.Key, cause, mark int) pair {
		p := at(cause, mark)
		p.msg.Key = k
		return p
	}
	near := []pair{of(key(6, 1, 2), 3, 1), of(key(5, 0, 2), 2, 2), of(key(5, 1, 3), 1, 3), of(key(5, 1, 1), 1, 4)}
	g := filled(t, of(k, 9, 5), near[0], near[1], of(k, 2, 6), of(k, 2, 6), near[2], near[3], of(k, 0, 7))
	retract(t, g, k, 4, api.OK)
	holds(t, g, 0, near...)
	retract(t, g, k, 0, api.ErrHandle)
	holds(t, g, 0, near...)
	told(t, "Open", g.Open(10), near[2], near[3], near[1], near[0])
}

// P14.4: a cause's key is no message's; what was opened or dropped can't be retracted; and nothing changes.
func TestRetractNone(t *testing.T) {
	g := filled(t, at(4, 1), at(6, 2), at(8, 3), at(6, 4))
	g.Open(5)
	g.Drop(key(7, 0, 0))
	for _, k := range []api.Key{{}, key(6, 0, 0), message(1).Key, message(3).Key, key(math.MinInt, -1, math.MaxInt)} {
		retract(t, g, k, 0, api.ErrHandle)
		holds(t, g, 5, at(6, 2), at(6, 4))
	}
	retract(t, g, message(4).Key, 1, api.OK)
	holds(t, g, 5, at(6, 2))
}

// spoil writes over all that l has, its spare room too.
func spoil(l []api.Msg) {
	room := l[:cap(l)]
	for i := range room {
		room[i] = api.Msg{Body: -7}
	}
}

// P14.2, P14.3, with R3: what a call answered is the caller's own, with its spare room.
func TestAnswersAreNewMemory(t *testing.T) {
	g := filled(t, at(1, 1), at(9, 2), at(2, 3), at(5, 4), at(8, 5), at(6, 6), at(7, 7))
	for range 2 {
		spoil(g.Held())
		holds(t, g, 0, at(1, 1), at(9, 2), at(2, 3), at(5, 4), at(8, 5), at(6, 6), at(7, 7))
	}
	before := g.Held()
	opened, dropped := g.Open(3), g.Drop(key(8, 0, 0))
	hold(t, g, at(10, 8), api.OK)
	retract(t, g, message(6).Key, 1, api.OK)
	told(t, "Held, later", before, at(1, 1), at(9, 2), at(2, 3), at(5, 4), at(8, 5), at(6, 6), at(7, 7))
	told(t, "Open, later", opened, at(1, 1), at(2, 3))
	spoil(opened)
	told(t, "Drop, later", dropped, at(9, 2), at(8, 5))
	spoil(dropped)
	spoil(before)
	holds(t, g, 3, at(5, 4), at(7, 7), at(10, 8))
}

// model is a gate by another way than the program's: what is held and where it went, by numbers of arrival.
type model struct {
	floor int
	came  []pair
	gone  []int // how often each went out
}

// held are the places of those that went nowhere.
func (m *model) held() []int {
	var l []int
	for i, n := range m.gone {
		if n == 0 {
			l = append(l, i)
		}
	}
	return l
}

func (m *model) pairs(l []int) []pair {
	var all []pair
	for _, i := range l {
		all = append(all, m.came[i])
	}
	return all
}

func (m *model) hold(p pair) api.Errno {
	if p.cause.T < m.floor {
		return api.ErrEarly
	}
	if len(m.held()) == 256 {
		return api.ErrFull
	}
	m.came, m.gone = append(m.came, p), append(m.gone, 0)
	return api.OK
}

// out counts those as gone that go, and tells them in the order in which they came.
func (m *model) out(goes func(pair) bool) []pair {
	var l []int
	for _, i := range m.held() {
		if goes(m.came[i]) {
			m.gone[i]++
			l = append(l, i)
		}
	}
	return m.pairs(l)
}

// draws is a row of numbers that look as if drawn.
func draws(seed uint64) func(below int) int {
	return func(below int) int {
		seed = seed*6364136223846793005 + 1442695040888963407
		return int((seed >> 33) % uint64(below))
	}
}

// count tells how many of each message there are in l, over what is there already.
func count(times map[api.Msg]int, l []api.Msg) {
	for _, m := range l {
		times[m]++
	}
}

// P14.1 to P14.5: whatever is called, in whatever order, it is as of the model; each message goes out once at most.
func TestLongRuns(t *testing.T) {
	for run := range 24 {
		g, m, draw := gate.New(), &model{}, draws(uint64(run))
		times := map[api.Msg]int{}
		now, full, retracted := 0, 0, 0
		for step := range 1500 {
			k := key(now+draw(9)-2, draw(3), draw(3))
			switch draw(30 + 60*(run%3)) {
			case 0:
				got := g.Drop(k)
				count(times, got)
				told(t, "Drop", got, m.out(func(p pair) bool { return !ahead(p.cause, k) })...)
				now = max(now-draw(3), 0)
			case 1:
				to := k.T - draw(14)
				got := g.Open(to)
				count(times, got)
				told(t, "Open", got, byCause(m.out(func(p pair) bool { return p.cause.T < to }))...)
				m.floor = max(m.floor, to)
			case 2, 3:
				gone := m.out(func(p pair) bool { return p.msg.Key == k })
				count(times, msgs(gone...))
				want := api.OK
				if len(gone) == 0 {
					want = api.ErrHandle
				}
				retract(t, g, k, len(gone), want)
				retracted += len(gone)
			default:
				// Keys come again, bodies don't.
				p := pair{k, api.Msg{Key: key(k.T+draw(3), draw(3), draw(3)), Body: step}}
				want := m.hold(p)
				hold(t, g, p, want)
				if want == api.ErrFull {
					full++
				}
				now += draw(8) / 7
			}
			holds(t, g, m.floor, m.pairs(m.held())...)
			if t.Failed() {
				t.Fatalf("run %d, step %d", run, step)
			}
		}
		count(times, g.Held())
		for _, p := range m.came {
			if times[p.msg] != 1 {
				t.Errorf("run %d: %v went out or is held %d times", run, p.msg, times[p.msg])
			}
		}
		if len(times) != len(m.came) || retracted == 0 || run%3 == 2 && full == 0 {
			t.Errorf("run %d: %d of %d, %d retracted, full %d times", run, len(times), len(m.came), retracted, full)
		}
	}
}

// P14.5: each goes one way only: what went by one call is told by none of the others.
func TestOnceAtMost(t *testing.T) {
	all := key(math.MinInt, math.MinInt, math.MinInt)
	for first := range 3 {
		g, p := filled(t, at(4, 1)), at(4, 1)
		switch first {
		case 0:
			told(t, "Drop", g.Drop(all), p)
		case 1:
			told(t, "Open", g.Open(5), p)
		case 2:
			retract(t, g, p.msg.Key, 1, api.OK)
		}
		told(t, "Drop", g.Drop(all))
		retract(t, g, p.msg.Key, 0, api.ErrHandle)
		told(t, "Open", g.Open(math.MaxInt))
		holds(t, g, math.MaxInt)
	}
}

// R5: the same calls on two gates answer the same.
func TestOneAnswer(t *testing.T) {
	a, b := filled(t, shuffled()...), filled(t, shuffled()...)
	if !slices.Equal(a.Drop(key(3, 0, 0)), b.Drop(key(3, 0, 0))) || !slices.Equal(a.Open(2), b.Open(2)) || !slices.Equal(a.Held(), b.Held()) {
		t.Errorf("%v, %v", a.Held(), b.Held())
	}
}
