package calendar_test

import (
	"math"
	"slices"
	"testing"

	"paceline/api"
	"paceline/calendar"
	"paceline/prio"
	"paceline/vtime"
)

const longestDay = 1 << 20

// msg is a message whose parts tell it from each other one of the same key.
func msg(t, from, seq int) api.Msg {
	return api.Msg{Key: api.Key{T: t, From: from, Seq: seq}, To: 100 + t, Class: 200 + from, Body: 300 + seq}
}

// at is a message of the time t.
func at(t int) api.Msg { return msg(t, 0, 0) }

// noTimes are numbers that are no times, those nearest to times among them.
var noTimes = []int{math.MinInt, -api.Inf, -81, -80, -9, -8, -1, api.MaxTime + 1, api.Inf - 1, api.Inf + 1, math.MaxInt}

// filled is a queue of room for room, with days of day, and msgs in it.
func filled(t *testing.T, room, day int, msgs ...api.Msg) *calendar.Queue {
	t.Helper()
	q := calendar.New(room, day)
	for _, m := range msgs {
		if e := q.Push(m); e != api.OK {
			t.Fatalf("Push(%v): %d", m, e)
		}
	}
	return q
}

// holds: q tells just want, by each call that changes nothing.
func holds(t *testing.T, q *calendar.Queue, want ...api.Msg) {
	t.Helper()
	if got := q.Len(); got != len(want) {
		t.Errorf("Len: %d, not %d", got, len(want))
	}
	if got := q.List(); !slices.Equal(got, want) {
		t.Errorf("List: %v, not %v", got, want)
	}
	first, is := q.First()
	if len(want) == 0 {
		if is || first != (api.Msg{}) {
			t.Errorf("First of none: %v, %v", first, is)
		}
		return
	}
	if !is || first != want[0] {
		t.Errorf("First: %v, %v, not %v", first, is, want[0])
	}
}

// popped: q pops just want.
func popped(t *testing.T, q *calendar.Queue, want ...api.Msg) {
	t.Helper()
	for i, m := range want {
		if got, is := q.Pop(); got != m || !is {
			t.Errorf("Pop %d: %v, %v, not %v", i, got, is, m)
		}
	}
	if got, is := q.Pop(); got != (api.Msg{}) || is {
		t.Errorf("Pop of none: %v, %v", got, is)
	}
}

// days: q tells just want of its pages.
func days(t *testing.T, q *calendar.Queue, want ...int) {
	t.Helper()
	if got := q.Days(); !slices.Equal(got, want) {
		t.Errorf("Days: %v, not %v", got, want)
	}
}

// orders calls f with each order of msgs.
func orders(msgs []api.Msg, f func([]api.Msg)) {
	var from func(n int)
	from = func(n int) {
		if n == len(msgs) {
			f(msgs)
			return
		}
		for i := n; i < len(msgs); i++ {
			msgs[n], msgs[i] = msgs[i], msgs[n]
			from(n + 1)
			msgs[n], msgs[i] = msgs[i], msgs[n]
		}
	}
	from(0)
}

// P4.1
func TestRoom(t *testing.T) {
	for _, x := range []struct{ room, want int }{
		{math.MinInt, 0}, {-3, 0}, {-1, 0}, {0, 0}, {1, 1}, {2, 2}, {7, 7},
		{api.MaxQueue - 1, api.MaxQueue - 1}, {api.MaxQueue, api.MaxQueue}, {api.MaxQueue + 1, api.MaxQueue}, {math.MaxInt, api.MaxQueue},
	} {
		q := calendar.New(x.room, 3)
		holds(t, q)
		days(t, q, 0, 0, 0, 0, 0, 0, 0, 0)
		n := 0
		for n <= api.MaxQueue && q.Push(at(n)) == api.OK {
			n++
		}
		if n != x.want || q.Len() != x.want {
			t.Errorf("New(%d): room for %d, %d there", x.room, n, q.Len())
		}
		if e := q.Push(at(1000)); e != api.ErrFull {
			t.Errorf("New(%d): one more: %d", x.room, e)
		}
	}
}

// P4.1: room for all may be taken by one page.
func TestRoomOfOnePage(t *testing.T) {
	q := calendar.New(api.MaxQueue, 10)
	for i := range api.MaxQueue {
		if e := q.Push(at(80 * i)); e != api.OK {
			t.Fatalf("%d: %d", i, e)
		}
	}
	days(t, q, api.MaxQueue, 0, 0, 0, 0, 0, 0, 0)
	if e := q.Push(at(10)); e != api.ErrFull {
		t.Errorf("one more: %d", e)
	}
}

// P4.1, P4.3: how many ticks a day has is seen by where messages stand.
func TestDay(t *testing.T) {
	for _, x := range []struct{ day, want int }{
		{math.MinInt, 1}, {-10, 1}, {-1, 1}, {0, 1}, {1, 1}, {2, 2}, {10, 10}, {1000, 1000},
		{longestDay - 1, longestDay - 1}, {longestDay, longestDay}, {longestDay + 1, longestDay}, {api.MaxTime, longestDay}, {math.MaxInt, longestDay},
	} {
		for _, y := range []struct{ t, page int }{
			{0, 0}, {x.want - 1, 0}, {x.want, 1}, {2*x.want - 1, 1}, {2 * x.want, 2},
			{8*x.want - 1, 7}, {8 * x.want, 0}, {9 * x.want, 1}, {16*x.want - 1, 7}, {16 * x.want, 0},
		} {
			q := filled(t, 1, x.day, at(y.t))
			want := make([]int, 8)
			want[y.page] = 1
			if got := q.Days(); !slices.Equal(got, want) {
				t.Errorf("day %d, time %d: %v, not on page %d", x.day, y.t, got, y.page)
			}
		}
	}
}

// P4.1, P4.3: the latest times have their pages too.
func TestPagesOfLateTimes(t *testing.T) {
	for _, day := range []int{1, 3, 7, 10, 1000, longestDay - 1, longestDay} {
		for _, late := range []int{api.MaxTime - 1, api.MaxTime, api.Inf} {
			want := make([]int, 8)
			want[late/day%8] = 1
			days(t, filled(t, 1, day, at(late)), want...)
		}
	}
}

// P4.1, with R3: two queues have nothing in common.
func TestQueuesAreTheirOwn(t *testing.T) {
	a, b := filled(t, 2, 4, at(5), at(3)), filled(t, 3, 4, at(5))
	a.Pop()
	b.Push(at(1))
	a.Remove(at(1).Key)
	holds(t, a, at(5))
	holds(t, b, at(1), at(5))
	days(t, a, 0, 1, 0, 0, 0, 0, 0, 0)
	days(t, b, 1, 1, 0, 0, 0, 0, 0, 0)
}

// P4.3: the example of the chapter.
func TestExample(t *testing.T) {
	days(t, filled(t, 8, 10, at(5), at(13), at(85)), 2, 1, 0, 0, 0, 0, 0, 0)
}

// P4.2
func TestPushOfTimes(t *testing.T) {
	want := []api.Msg{at(0), msg(1, math.MinInt, 1), msg(1, -1, 1), msg(1, 0, -5), msg(1, math.MaxInt, 0), at(api.MaxTime - 1), at(api.MaxTime), at(api.Inf)}
	q := calendar.New(len(want), 7)
	for _, m := range slices.Backward(want) {
		if e := q.Push(m); e != api.OK {
			t.Errorf("Push(%v): %d", m, e)
		}
	}
	holds(t, q, want...)
	popped(t, q, want...)
}

// P4.2: what is no time is told first, whether there is room or not.
func TestPushOfNoTime(t *testing.T) {
	for _, room := range []int{0, 2, 3} {
		for _, day := range []int{math.MinInt, 1, 10, math.MaxInt} {
			kept := []api.Msg{at(3), at(5)}[:min(room, 2)]
			q := filled(t, room, day, kept...)
			for _, n := range noTimes {
				if e := q.Push(at(n)); e != api.ErrArg {
					t.Errorf("room %d, day %d: Push of %d: %d", room, day, n, e)
				}
			}
			holds(t, q, kept...)
		}
	}
}

// P4.2: what is there already is told ahead of what has no room, and is left as it is.
func TestPushRefuses(t *testing.T) {
	q := filled(t, 2, 2, at(5), at(3))
	other := at(5)
	other.To, other.Class, other.Body = -1, -2, -3
	for range 2 {
		for _, x := range []struct {
			m    api.Msg
			want api.Errno
		}{
			{at(5), api.ErrTwice}, {other, api.ErrTwice}, {at(3), api.ErrTwice}, {at(-1), api.ErrArg},
			{at(1), api.ErrFull}, {at(4), api.ErrFull}, {at(9), api.ErrFull}, {at(21), api.ErrFull}, {msg(5, 0, 1), api.ErrFull}, {msg(5, 1, 0), api.ErrFull},
		} {
			if e := q.Push(x.m); e != x.want {
				t.Errorf("Push(%v): %d, not %d", x.m, e, x.want)
			}
			holds(t, q, at(3), at(5))
			days(t, q, 0, 1, 1, 0, 0, 0, 0, 0)
		}
	}
	popped(t, q, at(3), at(5))
}

// P4.2
func TestPushTwiceWhereThereIsRoom(t *testing.T) {
	q := filled(t, 9, 1, at(5))
	if e := q.Push(at(5)); e != api.ErrTwice {
		t.Errorf("%d", e)
	}
	for _, m := range []api.Msg{msg(5, 0, 1), msg(5, 1, 0), msg(6, 0, 0), msg(5, -1, 0), msg(13, 0, 0)} {
		if e := q.Push(m); e != api.OK {
			t.Errorf("one that only looks alike, %v: %d", m, e)
		}
	}
	holds(t, q, msg(5, -1, 0), at(5), msg(5, 0, 1), msg(5, 1, 0), at(6), at(13))
}

// P4.2: what is gone may come again, with other parts, and leaves its room.
func TestPushAgain(t *testing.T) {
	again := at(3)
	again.Body = 7
	q := filled(t, 2, 4, at(3), at(5))
	q.Pop()
	if e := q.Push(again); e != api.OK {
		t.Errorf("after Pop: %d", e)
	}
	holds(t, q, again, at(5))
	if m, is := q.Remove(again.Key); m != again || !is {
		t.Errorf("Remove: %v, %v", m, is)
	}
	if e := q.Push(at(3)); e != api.OK {
		t.Errorf("after Remove: %d", e)
	}
	holds(t, q, at(3), at(5))
	if e := q.Push(at(4)); e != api.ErrFull {
		t.Errorf("no room: %d", e)
	}
}

// P4.2
func TestOfNone(t *testing.T) {
	for _, q := range []*calendar.Queue{calendar.New(0, 1), calendar.New(3, 10)} {
		for range 2 {
			popped(t, q)
			if m, is := q.Remove(api.Key{}); m != (api.Msg{}) || is {
				t.Errorf("Remove: %v, %v", m, is)
			}
			if l := q.Below(math.MaxInt); len(l) != 0 {
				t.Errorf("Below: %v", l)
			}
			holds(t, q)
			days(t, q, 0, 0, 0, 0, 0, 0, 0, 0)
		}
	}
}

// P4.2
func TestFirstStays(t *testing.T) {
	q := filled(t, 4, 1, at(15), at(2), at(5))
	holds(t, q, at(2), at(5), at(15))
	holds(t, q, at(2), at(5), at(15))
	popped(t, q, at(2), at(5), at(15))
}

// P4.2: a later day may stand on an earlier page, and many days on one.
func TestFirstIsNotOfTheFirstPage(t *testing.T) {
	for _, sorted := range [][]api.Msg{
		{at(71), at(80), at(90)},
		{at(13), at(85), at(165)},
		{at(5), at(85), at(165), at(api.MaxTime), at(api.Inf)},
		{at(79), msg(80, 0, 0), msg(80, 0, 1), msg(80, 1, 0), at(160)},
	} {
		orders(slices.Clone(sorted), func(order []api.Msg) {
			q := filled(t, len(order), 10, order...)
			holds(t, q, sorted...)
			popped(t, q, sorted...)
		})
	}
}

// P4.2: each of the messages is removed, whatever the order in which they came.
func TestRemove(t *testing.T) {
	sorted := []api.Msg{msg(1, 0, 0), msg(1, 0, 1), msg(1, 2, 0), msg(4, 0, 0), msg(17, 0, 0), msg(17, 1, 0)}
	orders(slices.Clone(sorted), func(order []api.Msg) {
		for i, m := range sorted {
			q := filled(t, len(order), 2, order...)
			if got, is := q.Remove(m.Key); got != m || !is {
				t.Errorf("Remove(%v): %v, %v", m.Key, got, is)
			}
			if got, is := q.Remove(m.Key); got != (api.Msg{}) || is {
				t.Errorf("Remove(%v) again: %v, %v", m.Key, got, is)
			}
			popped(t, q, slices.Delete(slices.Clone(sorted), i, i+1)...)
		}
	})
}

// P4.2
func TestRemoveOfWhatIsNotThere(t *testing.T) {
	for _, day := range []int{1, 2, 10, longestDay} {
		q := filled(t, 3, day, msg(5, 2, 7), msg(3, 1, 1))
		keys := []api.Key{{}, {T: 5}, {T: 5, From: 2}, {T: 5, From: 2, Seq: 6}, {T: 5, From: 1, Seq: 7}, {T: 4, From: 2, Seq: 7}, {T: 13, From: 2, Seq: 7}, {T: api.MaxTime}, {T: api.Inf}}
		for _, n := range noTimes {
			keys = append(keys, api.Key{T: n, From: 2, Seq: 7})
		}
		for _, k := range keys {
			if m, is := q.Remove(k); m != (api.Msg{}) || is {
				t.Errorf("Remove(%v): %v, %v", k, m, is)
			}
		}
		holds(t, q, msg(3, 1, 1), msg(5, 2, 7))
	}
}

// P4.2
func TestBelow(t *testing.T) {
	sorted := []api.Msg{at(0), msg(5, 0, 1), msg(5, 3, 0), at(9), at(41), at(api.MaxTime), at(api.Inf)}
	q := filled(t, len(sorted), 5, sorted[5], sorted[2], sorted[4], sorted[6], sorted[0], sorted[3], sorted[1])
	for _, x := range []struct{ t, want int }{
		{math.MinInt, 0}, {-1, 0}, {0, 0}, {1, 1}, {5, 1}, {6, 3}, {9, 3}, {10, 4}, {41, 4}, {42, 5},
		{api.MaxTime, 5}, {api.MaxTime + 1, 6}, {api.Inf, 6}, {api.Inf + 1, 7}, {math.MaxInt, 7},
	} {
		if got := q.Below(x.t); !slices.Equal(got, sorted[:x.want]) {
			t.Errorf("Below(%d): %v, not %v", x.t, got, sorted[:x.want])
		}
	}
	holds(t, q, sorted...)
}

// P4.3: what goes leaves its page, by Pop and by Remove.
func TestDaysOfWhatIsLeft(t *testing.T) {
	q := filled(t, 8, 10, at(5), at(13), at(85), at(79), at(14))
	days(t, q, 2, 2, 0, 0, 0, 0, 0, 1)
	q.Pop()
	days(t, q, 1, 2, 0, 0, 0, 0, 0, 1)
	q.Remove(at(79).Key)
	days(t, q, 1, 2, 0, 0, 0, 0, 0, 0)
	q.Remove(at(78).Key)
	q.Push(at(-10))
	q.Push(at(85))
	days(t, q, 1, 2, 0, 0, 0, 0, 0, 0)
	q.Push(at(30))
	days(t, q, 1, 2, 0, 1, 0, 0, 0, 0)
}

// P4.2, P4.3, with R3: what a call answered is the caller's own, with its spare room.
func TestAnswersAreNewMemory(t *testing.T) {
	q := filled(t, 8, 10, at(5), at(3), at(9))
	for _, tell := range []func() []api.Msg{
		q.List,
		func() []api.Msg { return q.Below(9) },
		func() []api.Msg { return q.Below(math.MaxInt) },
	} {
		a, b := tell(), tell()
		want := slices.Clone(a)
		room := a[:cap(a)]
		for i := range room {
			room[i] = at(77)
		}
		if !slices.Equal(b, want) {
			t.Errorf("two answers share memory: %v, not %v", b, want)
		}
		holds(t, q, at(3), at(5), at(9))
	}
	pages := q.Days()
	for i := range pages[:cap(pages)] {
		pages[:cap(pages)][i] = 77
	}
	days(t, q, 3, 0, 0, 0, 0, 0, 0, 0)
	l, early, pages := q.List(), q.Below(9), q.Days()
	q.Pop()
	q.Push(at(1))
	q.Push(at(10))
	if !slices.Equal(l, []api.Msg{at(3), at(5), at(9)}) || !slices.Equal(early, []api.Msg{at(3), at(5)}) || !slices.Equal(pages, []int{3, 0, 0, 0, 0, 0, 0, 0}) {
		t.Errorf("an answer changed: %v, %v, %v", l, early, pages)
	}
}

// numbers is a row of numbers that is the same in each run.
type numbers uint64

func (n *numbers) below(most int) int {
	*n = *n*6364136223846793005 + 1442695040888963407
	return int((*n >> 33) % numbers(most))
}

// pair is a calendar and a heap, on which the same is called.
type pair struct {
	days *calendar.Queue
	heap *prio.Queue
}

// change calls Pop, Remove or Push of both, as n says.
func (p pair) change(t *testing.T, n int, m api.Msg) {
	t.Helper()
	switch n {
	case 0:
		got, is := p.days.Pop()
		if want, wantIs := p.heap.Pop(); got != want || is != wantIs {
			t.Fatalf("Pop: %v, %v, not %v", got, is, want)
		}
	case 1:
		got, is := p.days.Remove(m.Key)
		if want, wantIs := p.heap.Remove(m.Key); got != want || is != wantIs {
			t.Fatalf("Remove: %v, %v, not %v", got, is, want)
		}
	default:
		want := api.ErrArg
		if vtime.Valid(m.Key.T) {
			want = p.heap.Push(m)
		}
		if e := p.days.Push(m); e != want {
			t.Fatalf("Push(%v): %d, not %d", m, e, want)
		}
	}
}

// same: both tell the same, and the pages are those of the days.
func (p pair) same(t *testing.T, day, below int) {
	t.Helper()
	all := p.heap.List()
	holds(t, p.days, all...)
	if got, want := p.days.Below(below), p.heap.Below(below); !slices.Equal(got, want) {
		t.Errorf("Below(%d): %v, not %v", below, got, want)
	}
	pages := make([]int, 8)
	for _, m := range all {
		pages[m.Key.T/day%8]++
	}
	days(t, p.days, pages...)
	if t.Failed() {
		t.FailNow()
	}
}

// P4.4, with P4.2 and P4.3: whatever is called, in whatever order, and whatever the day.
func TestLongRuns(t *testing.T) {
	times := []int{-8, -1, 0, 1, 2, 3, 7, 8, 9, 15, 16, 17, 63, 64, 79, 80, 81, longestDay, 8 * longestDay, api.MaxTime, api.MaxTime + 1, api.Inf}
	for _, room := range []int{1, 2, 5, 17, api.MaxQueue} {
		for _, day := range []int{1, 2, 3, 8, 10, 1000, longestDay} {
			n := numbers(room*1000 + day)
			p := pair{calendar.New(room, day), prio.New(room)}
			for step := range 1500 {
				m := msg(times[n.below(len(times))], n.below(2), n.below(3))
				m.Body = step
				p.change(t, n.below(7), m)
				p.same(t, day, m.Key.T+n.below(2))
			}
		}
	}
}

// P4.4: what is popped comes in order, as long as nothing is pushed.
func TestWhatIsPoppedComesInOrder(t *testing.T) {
	for _, day := range []int{-1, 1, 3, 10, longestDay, math.MaxInt} {
		q, n := calendar.New(api.MaxQueue, day), numbers(7)
		for seq := range api.MaxQueue {
			if e := q.Push(msg(n.below(200), n.below(3), seq)); e != api.OK {
				t.Fatalf("%d", e)
			}
		}
		last, _ := q.Pop()
		for range api.MaxQueue - 1 {
			m, is := q.Pop()
			if !is || vtime.Cmp(last.Key, m.Key) >= 0 {
				t.Errorf("day %d: %v ahead of %v, %v", day, last.Key, m.Key, is)
			}
			last = m
		}
		popped(t, q)
	}
}
