package past_test

import (
	"cmp"
	"math"
	"slices"
	"testing"

	"paceline/api"
	"paceline/past"
)

func key(t, from, seq int) api.Key { return api.Key{T: t, From: from, Seq: seq} }

// entry is one of the key k whose other parts mark tells from those of each other one; it sent mark % 4 messages.
func entry(k api.Key, mark int) past.Entry {
	e := past.Entry{
		Msg:   api.Msg{Key: k, To: 100 + mark, Class: 200 + mark, Body: 300 + mark},
		Ahead: 400 + mark, Sent: 500 + mark, State: 600 + mark,
	}
	for i := range mark & 3 {
		e.Outs = append(e.Outs, api.Msg{Key: key(700+mark, i, mark), To: i, Class: mark, Body: 800 + i})
	}
	return e
}

// at is an entry of the time t, that sent as many as t tells.
func at(t int) past.Entry { return entry(key(t, 0, 0), t) }

// copied is e with a list of its own, as what is held against it may not share any with it.
func copied(e past.Entry) past.Entry {
	e.Outs = append([]api.Msg{}, e.Outs...)
	return e
}

func same(a, b past.Entry) bool {
	return a.Msg == b.Msg && a.Ahead == b.Ahead && a.Sent == b.Sent && a.State == b.State && slices.Equal(a.Outs, b.Outs)
}

// told: what a call of that name answered is just want.
func told(t *testing.T, call string, got []past.Entry, want ...past.Entry) {
	t.Helper()
	if !slices.EqualFunc(got, want, same) {
		t.Errorf("%s: %v, not %v", call, got, want)
	}
}

// pushed: p answers that error.
func pushed(t *testing.T, p *past.Past, e past.Entry, want api.Errno) {
	t.Helper()
	if got := p.Push(e); got != want {
		t.Errorf("Push of %v: %d, not %d", e.Msg.Key, got, want)
	}
}

// filled is a past of these entries.
func filled(t *testing.T, entries ...past.Entry) *past.Past {
	t.Helper()
	p := past.New()
	for _, e := range entries {
		pushed(t, p, e, api.OK)
	}
	return p
}

// holds: p tells that floor, and just these entries, by each call that changes nothing.
func holds(t *testing.T, p *past.Past, floor int, want ...past.Entry) {
	t.Helper()
	var keys []api.Key
	for _, e := range want {
		keys = append(keys, e.Msg.Key)
	}
	if got := p.Floor(); got != floor {
		t.Errorf("Floor: %d, not %d", got, floor)
	}
	if got := p.Len(); got != len(want) {
		t.Errorf("Len: %d, not %d", got, len(want))
	}
	if got := p.Keys(); !slices.Equal(got, keys) {
		t.Errorf("Keys: %v, not %v", got, keys)
	}
	last, is := p.Last()
	if len(want) == 0 {
		if is || !same(last, past.Entry{}) {
			t.Errorf("Last of none: %v, %v", last, is)
		}
	} else if !is || !same(last, want[len(want)-1]) {
		t.Errorf("Last: %v, %v, not %v", last, is, want[len(want)-1])
	}
}

// backward is l, the last one first.
func backward(l []past.Entry) []past.Entry {
	l = slices.Clone(l)
	slices.Reverse(l)
	return l
}

// keysAround are keys of few times, federates and numbers, in order, with those around all others at both ends.
func keysAround() []api.Key {
	keys := []api.Key{key(math.MinInt, math.MinInt, math.MinInt), key(-1, 5, 5)}
	for t := range 4 {
		for from := -1; from < 2; from++ {
			for seq := -1; seq < 2; seq++ {
				keys = append(keys, key(t, from, seq))
			}
		}
	}
	return append(keys, key(api.Inf, 0, 0), key(math.MaxInt, math.MaxInt, math.MaxInt))
}

// ahead tells whether a stands ahead of b, by another way than the program's.
func ahead(a, b api.Key) bool {
	return a.T < b.T || a.T == b.T && (a.From < b.From || a.From == b.From && a.Seq < b.Seq)
}

// The chapter's example.
func TestExample(t *testing.T) {
	p := filled(t, at(1), at(3), at(5))
	told(t, "Back", p.Back(key(3, 0, 0)), at(5), at(3))
	told(t, "Settle", p.Settle(2), at(1))
	holds(t, p, 2)
}

// P13.1
func TestNew(t *testing.T) {
	p := past.New()
	holds(t, p, 0)
	told(t, "Back", p.Back(key(math.MinInt, math.MinInt, math.MinInt)))
	told(t, "Settle", p.Settle(0))
	holds(t, p, 0)
	pushed(t, p, at(-1), api.ErrEarly)
	holds(t, p, 0)
	pushed(t, p, at(0), api.OK)
	holds(t, p, 0, at(0))
}

// P13.1, with R3: two pasts have nothing in common.
func TestPastsAreTheirOwn(t *testing.T) {
	a, b := filled(t, at(1), at(3)), filled(t, at(2))
	told(t, "Settle", a.Settle(2), at(1))
	pushed(t, b, at(4), api.OK)
	holds(t, a, 2, at(3))
	holds(t, b, 0, at(2), at(4))
	holds(t, past.New(), 0)
}

// P13.2: below the floor nothing comes, at it and above it all, whatever its number.
func TestPushEarly(t *testing.T) {
	low, high := math.MinInt, math.MaxInt
	for _, floor := range []int{0, 1, 7, api.MaxTime, api.MaxTime + 1, api.Inf, api.Inf + 1, math.MaxInt} {
		for _, early := range []int{low, -api.Inf, -1, floor / 2, floor - 1} {
			if early >= floor {
				continue
			}
			p := past.New()
			p.Settle(floor)
			pushed(t, p, entry(key(early, high, high), 1), api.ErrEarly)
			holds(t, p, floor)
		}
		for _, fits := range []int{floor, max(floor, api.Inf), high} {
			p, e := past.New(), entry(key(fits, low, low), 2)
			p.Settle(floor)
			pushed(t, p, e, api.OK)
			holds(t, p, floor, e)
		}
	}
}

// P13.2: each key is refused that does not stand behind the last one's, by all of its parts.
func TestPushOrder(t *testing.T) {
	keys := keysAround()
	for i, a := range keys {
		for j, b := range keys {
			if a.T < 0 || b.T < 0 {
				continue
			}
			p := filled(t, entry(a, 1))
			if i < j {
				pushed(t, p, entry(b, 2), api.OK)
				holds(t, p, 0, entry(a, 1), entry(b, 2))
			} else {
				pushed(t, p, entry(b, 2), api.ErrOrder)
				holds(t, p, 0, entry(a, 1))
			}
		}
	}
}

// P13.2: the order is held against the last entry that is there, not against one that went.
func TestPushBehindWhatIsThere(t *testing.T) {
	p := filled(t, at(2), at(6), at(9))
	told(t, "Back", p.Back(key(6, 0, 0)), at(9), at(6))
	pushed(t, p, at(2), api.ErrOrder)
	pushed(t, p, at(6), api.OK)
	pushed(t, p, at(7), api.OK)
	holds(t, p, 0, at(2), at(6), at(7))
	told(t, "Back", p.Back(key(0, 0, 0)), at(7), at(6), at(2))
	pushed(t, p, at(1), api.OK)
	holds(t, p, 0, at(1))
}

// P13.2: there is room for MaxQueue entries, and again where some went.
func TestPushFull(t *testing.T) {
	var all []past.Entry
	p := past.New()
	for i := range api.MaxQueue {
		all = append(all, at(10+i))
		pushed(t, p, at(10+i), api.OK)
		holds(t, p, 0, all...)
	}
	pushed(t, p, at(1000), api.ErrFull)
	holds(t, p, 0, all...)
	told(t, "Settle", p.Settle(11), at(10))
	pushed(t, p, at(1000), api.OK)
	pushed(t, p, at(1001), api.ErrFull)
	told(t, "Back", p.Back(key(1000, 0, 0)), at(1000))
	pushed(t, p, at(1002), api.OK)
	pushed(t, p, at(1003), api.ErrFull)
	holds(t, p, 11, append(all[1:], at(1002))...)
}

// P13.2: ErrEarly is named ahead of ErrOrder, and this ahead of ErrFull.
func TestPushWhichError(t *testing.T) {
	p := past.New()
	p.Settle(5)
	for i := range api.MaxQueue {
		pushed(t, p, at(10+i), api.OK)
	}
	pushed(t, p, at(4), api.ErrEarly)
	pushed(t, p, at(5), api.ErrOrder)
	pushed(t, p, at(9+api.MaxQueue), api.ErrOrder)
	pushed(t, p, at(10+api.MaxQueue), api.ErrFull)
	q := filled(t, at(8))
	q.Settle(6)
	pushed(t, q, at(5), api.ErrEarly)
	pushed(t, q, at(6), api.ErrOrder)
	holds(t, q, 6, at(8))
}

// P13.2: Last tells the same till another one is it.
func TestLastStays(t *testing.T) {
	p := filled(t, at(3))
	holds(t, p, 0, at(3))
	holds(t, p, 0, at(3))
	pushed(t, p, at(6), api.OK)
	holds(t, p, 0, at(3), at(6))
	told(t, "Back", p.Back(key(4, 0, 0)), at(6))
	holds(t, p, 0, at(3))
}

// P13.3: Back of each key, of an entry's or of one between them.
func TestBack(t *testing.T) {
	keys := keysAround()
	var all []past.Entry
	for i, k := range keys {
		// Between two entries there are keys of none.
		if k.T >= 0 && i%2 == 0 {
			all = append(all, entry(k, i))
		}
	}
	for _, k := range keys {
		p, stay := filled(t, all...), 0
		for stay < len(all) && ahead(all[stay].Msg.Key, k) {
			stay++
		}
		told(t, "Back", p.Back(k), backward(all[stay:])...)
		holds(t, p, 0, all[:stay]...)
		told(t, "Back again", p.Back(k))
		holds(t, p, 0, all[:stay]...)
	}
}

// P13.3: Settle of each time; those at it stay, whoever sent them.
func TestSettle(t *testing.T) {
	var all []past.Entry
	for i, k := range keysAround() {
		if k.T >= 0 {
			all = append(all, entry(k, i))
		}
	}
	for _, to := range []int{math.MinInt, -api.Inf, -1, 0, 1, 2, 3, 4, api.MaxTime, api.Inf, api.Inf + 1, math.MaxInt} {
		p, early := filled(t, all...), 0
		for early < len(all) && all[early].Msg.Key.T < to {
			early++
		}
		told(t, "Settle", p.Settle(to), all[:early]...)
		holds(t, p, max(to, 0), all[early:]...)
		told(t, "Settle again", p.Settle(to))
		holds(t, p, max(to, 0), all[early:]...)
	}
}

// P13.3: the floor rises without entries, too, and never falls.
func TestFloor(t *testing.T) {
	p, floor := filled(t, at(20)), 0
	for _, to := range []int{-3, 4, 2, math.MinInt, 4, 5, 0, 20, 19, -1} {
		floor = max(floor, to)
		told(t, "Settle", p.Settle(to))
		holds(t, p, floor, at(20))
	}
	told(t, "Settle", p.Settle(21), at(20))
	holds(t, p, 21)
	told(t, "Settle", p.Settle(30))
	holds(t, p, 30)
	told(t, "Settle", p.Settle(29))
	holds(t, p, 30)
}

// P13.3: Back leaves the floor, and what is settled is not undone.
func TestBackBelowTheFloor(t *testing.T) {
	p := filled(t, at(1), at(3), at(5), at(8))
	told(t, "Settle", p.Settle(4), at(1), at(3))
	told(t, "Back", p.Back(key(0, 0, 0)), at(8), at(5))
	holds(t, p, 4)
	pushed(t, p, at(3), api.ErrEarly)
	pushed(t, p, at(4), api.OK)
	holds(t, p, 4, at(4))
}

// P13.2, with R3: what was handed in is neither changed nor kept, nor what lies behind its length.
func TestPushKeepsNothing(t *testing.T) {
	e, want := at(7), at(7)
	e.Outs = append(make([]api.Msg, 0, 8), e.Outs...)
	room := e.Outs[:cap(e.Outs)]
	p := filled(t, e)
	if !slices.Equal(room, append(slices.Clone(want.Outs), make([]api.Msg, 5)...)) {
		t.Errorf("Push changed %v", room)
	}
	for i := range room {
		room[i].Body = -1
	}
	holds(t, p, 0, want)
	told(t, "Back", p.Back(key(0, 0, 0)), want)
	for i := range room {
		if room[i].Body != -1 {
			t.Errorf("Back changed %v", room)
		}
	}
}

// spoil writes over all that l has, its spare room too, and over what each of its entries sent.
func spoil(l []past.Entry) {
	room := l[:cap(l)]
	for i := range room {
		outs := room[i].Outs[:cap(room[i].Outs)]
		for j := range outs {
			outs[j] = api.Msg{Body: -7}
		}
		room[i] = past.Entry{Ahead: -7}
	}
}

// P13.2 to P13.4, with R3: what a call answered is the caller's own, with its spare room.
func TestAnswersAreNewMemory(t *testing.T) {
	all := []past.Entry{at(1), at(2), at(3), at(5), at(6), at(7), at(9), at(11)}
	p := filled(t, all...)
	for range 2 {
		last, _ := p.Last()
		spoil([]past.Entry{last})
		keys := p.Keys()
		for i := range keys[:cap(keys)] {
			keys[:cap(keys)][i] = key(-7, -7, -7)
		}
		holds(t, p, 0, all...)
	}
	settled := p.Settle(3)
	undone := p.Back(key(9, 0, 0))
	pushed(t, p, at(10), api.OK)
	told(t, "Settle, later", settled, at(1), at(2))
	told(t, "Back, later", undone, at(11), at(9))
	spoil(settled)
	told(t, "Back, later", undone, at(11), at(9))
	spoil(undone)
	holds(t, p, 3, at(3), at(5), at(6), at(7), at(10))
	told(t, "Back", p.Back(key(0, 0, 0)), at(10), at(7), at(6), at(5), at(3))
}

// P13.3, with R3: no two lists of one answer share any memory.
func TestListsOfOneAnswer(t *testing.T) {
	outs := []api.Msg{{Body: 1}, {Body: 2}}
	fill := func() *past.Past {
		p := past.New()
		for i := range 4 {
			e := at(i)
			e.Outs = outs
			pushed(t, p, e, api.OK)
		}
		return p
	}
	for _, l := range [][]past.Entry{fill().Back(key(0, 0, 0)), fill().Settle(4)} {
		if len(l) != 4 {
			t.Fatalf("%v", l)
		}
		for i := range l {
			room := l[i].Outs[:cap(l[i].Outs)]
			for j := range room {
				room[j].Body = -1
			}
			for _, e := range l[i+1:] {
				if !slices.Equal(e.Outs, outs) {
					t.Errorf("%v shares memory with %v", e.Msg.Key, l[i].Msg.Key)
				}
			}
		}
	}
	if outs[0].Body != 1 || outs[1].Body != 2 {
		t.Errorf("an argument changed: %v", outs)
	}
}

// model is a past by another way than the program's: a list of which each entry is asked whether it goes.
type model struct {
	floor   int
	entries []past.Entry
}

func (m *model) push(e past.Entry) api.Errno {
	if e.Msg.Key.T < m.floor {
		return api.ErrEarly
	}
	for _, x := range m.entries {
		if !ahead(x.Msg.Key, e.Msg.Key) {
			return api.ErrOrder
		}
	}
	if len(m.entries) == 64 {
		return api.ErrFull
	}
	m.entries = append(m.entries, copied(e))
	return api.OK
}

// take takes those out that go.
func (m *model) take(goes func(api.Key) bool) []past.Entry {
	var gone, stay []past.Entry
	for _, e := range m.entries {
		if goes(e.Msg.Key) {
			gone = append(gone, e)
		} else {
			stay = append(stay, e)
		}
	}
	m.entries = stay
	return gone
}

func (m *model) back(k api.Key) []past.Entry {
	return backward(m.take(func(x api.Key) bool { return !ahead(x, k) }))
}

func (m *model) settle(t int) []past.Entry {
	m.floor = max(m.floor, t)
	return m.take(func(x api.Key) bool { return x.T < t })
}

// draws is a row of numbers that look as if drawn.
func draws(seed uint64) func(below int) int {
	return func(below int) int {
		seed = seed*6364136223846793005 + 1442695040888963407
		return int((seed >> 33) % uint64(below))
	}
}

// P13.1 to P13.5: whatever is called, in whatever order, it is as of the model; what is settled comes in order, and never again; what is there is never below the floor.
func TestLongRuns(t *testing.T) {
	for run := range 30 {
		p, m, draw := past.New(), &model{}, draws(uint64(run))
		var settled []past.Entry
		now, full := 0, 0
		for step := range 1500 {
			k := key(now+draw(7)-2, draw(3), draw(4))
			switch draw(40 + 40*(run%3)) {
			case 0, 1:
				told(t, "Back", p.Back(k), m.back(k)...)
				now = max(now-draw(3), 0)
			case 2:
				to := k.T - draw(12)
				got := p.Settle(to)
				settled = append(settled, got...)
				told(t, "Settle", got, m.settle(to)...)
			default:
				e := entry(k, step)
				want := m.push(e)
				pushed(t, p, e, want)
				if want == api.ErrFull {
					full++
				}
				now += draw(2)
			}
			holds(t, p, m.floor, m.entries...)
			if p.Len() > 0 && p.Keys()[0].T < p.Floor() {
				t.Errorf("%v is below %d", p.Keys()[0], p.Floor())
			}
			if t.Failed() {
				t.Fatalf("run %d, step %d", run, step)
			}
		}
		if !slices.IsSortedFunc(settled, byKey) || len(settled) == 0 {
			t.Errorf("settled: %v", settled)
		}
		for i := 1; i < len(settled); i++ {
			if settled[i-1].Msg.Key == settled[i].Msg.Key {
				t.Errorf("%v was settled twice", settled[i].Msg.Key)
			}
		}
		if run%3 == 2 && full == 0 {
			t.Errorf("run %d was never full", run)
		}
	}
}

func byKey(a, b past.Entry) int {
	x, y := a.Msg.Key, b.Msg.Key
	return cmp.Or(cmp.Compare(x.T, y.T), cmp.Compare(x.From, y.From), cmp.Compare(x.Seq, y.Seq))
}

// P13.5: what was settled is never undone, by whatever Back; and what was undone may be done again.
func TestSettledIsNeverUndone(t *testing.T) {
	for floor := range 8 {
		p := past.New()
		for i := range 8 {
			pushed(t, p, at(i), api.OK)
		}
		settled := p.Settle(floor)
		if len(settled) != floor {
			t.Errorf("Settle(%d): %v", floor, settled)
		}
		for _, e := range p.Back(key(math.MinInt, 0, 0)) {
			if e.Msg.Key.T < floor {
				t.Errorf("%v was settled below %d", e.Msg.Key, floor)
			}
		}
		for i := range 8 {
			if i < floor {
				pushed(t, p, at(i), api.ErrEarly)
			} else {
				pushed(t, p, at(i), api.OK)
			}
		}
	}
}

// R5: the same calls on two pasts answer the same.
func TestOneAnswer(t *testing.T) {
	a, b := filled(t, at(1), at(4), at(6), at(7)), filled(t, at(1), at(4), at(6), at(7))
	told(t, "Settle", a.Settle(4), b.Settle(4)...)
	told(t, "Back", a.Back(key(6, 1, 0)), b.Back(key(6, 1, 0))...)
	holds(t, a, 4, at(4), at(6))
	holds(t, b, 4, at(4), at(6))
}
