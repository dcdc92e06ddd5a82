package prio_test

import (
	"cmp"
	"math"
	"slices"
	"testing"

	"paceline/api"
	"paceline/prio"
	"paceline/vtime"
)

// msg is a message whose parts tell it from each other one of the same key.
func msg(t, from, seq int) api.Msg {
	return api.Msg{Key: api.Key{T: t, From: from, Seq: seq}, To: 100 + t, Class: 200 + from, Body: 300 + seq}
}

// at is a message of the time t.
func at(t int) api.Msg { return msg(t, 0, 0) }

// filled is a queue of room for room, with msgs in it.
func filled(t *testing.T, room int, msgs ...api.Msg) *prio.Queue {
	t.Helper()
	q := prio.New(room)
	for _, m := range msgs {
		if e := q.Push(m); e != api.OK {
			t.Fatalf("Push(%v): %d", m, e)
		}
	}
	return q
}

// holds: q tells just want, by each call that changes nothing.
func holds(t *testing.T, q *prio.Queue, want ...api.Msg) {
	t.Helper()
	if got := q.Len(); got != len(want) {
		t.Errorf("Len: %d, not %d", got, len(want))
	}
	if got := q.List(); !slices.Equal(got, want) {
		t.Errorf("List: %v, not %v", got, want)
	}
	first, is := q.First()
	if len(want) == 0 {
		if is || first != (api.Msg{}) {
			t.Errorf("First of none: %v, %v", first, is)
		}
		return
	}
	if !is || first != want[0] {
		t.Errorf("First: %v, %v, not %v", first, is, want[0])
	}
}

// popped: q pops just want.
func popped(t *testing.T, q *prio.Queue, want ...api.Msg) {
	t.Helper()
	for i, m := range want {
		if got, is := q.Pop(); got != m || !is {
			t.Errorf("Pop %d: %v, %v, not %v", i, got, is, m)
		}
	}
	if got, is := q.Pop(); got != (api.Msg{}) || is {
		t.Errorf("Pop of none: %v, %v", got, is)
	}
}

// orders calls f with each order of msgs.
func orders(msgs []api.Msg, f func([]api.Msg)) {
	var from func(n int)
	from = func(n int) {
		if n == len(msgs) {
			f(msgs)
			return
		}
		for i := n; i < len(msgs); i++ {
			msgs[n], msgs[i] = msgs[i], msgs[n]
			from(n + 1)
			msgs[n], msgs[i] = msgs[i], msgs[n]
		}
	}
	from(0)
}

// P3.1
func TestNew(t *testing.T) {
	for _, x := range []struct{ room, want int }{
		{math.MinInt, 0}, {-3, 0}, {-1, 0}, {0, 0}, {1, 1}, {2, 2}, {7, 7},
		{api.MaxQueue - 1, api.MaxQueue - 1}, {api.MaxQueue, api.MaxQueue}, {api.MaxQueue + 1, api.MaxQueue}, {math.MaxInt, api.MaxQueue},
	} {
		q := prio.New(x.room)
		holds(t, q)
		n := 0
		for n <= api.MaxQueue && q.Push(at(n)) == api.OK {
			n++
		}
		if n != x.want || q.Len() != x.want {
			t.Errorf("New(%d): room for %d, %d there", x.room, n, q.Len())
		}
		if e := q.Push(at(-1)); e != api.ErrFull {
			t.Errorf("New(%d): one more: %d", x.room, e)
		}
	}
}

// P3.1, with R3: two queues have nothing in common.
func TestQueuesAreTheirOwn(t *testing.T) {
	a, b := filled(t, 2, at(5), at(3)), filled(t, 3, at(5))
	a.Pop()
	b.Push(at(1))
	a.Remove(at(1).Key)
	holds(t, a, at(5))
	holds(t, b, at(1), at(5))
}

// P3.2, P3.3: the example of the chapter.
func TestExample(t *testing.T) {
	q := filled(t, 2, at(5), at(3))
	if m, is := q.Pop(); m != at(3) || !is {
		t.Errorf("Pop: %v, %v", m, is)
	}
	if m, is := q.Remove(at(5).Key); m != at(5) || !is {
		t.Errorf("Remove: %v, %v", m, is)
	}
	if n := q.Len(); n != 0 {
		t.Errorf("Len: %d", n)
	}
}

// P3.2
func TestPushOfAnyKey(t *testing.T) {
	edges := []int{math.MinInt, -api.Inf, -1, 0, 1, api.MaxTime, api.MaxTime + 1, api.Inf, api.Inf + 1, math.MaxInt}
	var want []api.Msg
	for _, n := range edges {
		want = append(want, msg(n, 1, 1))
	}
	q := prio.New(len(want))
	for _, m := range slices.Backward(want) {
		if e := q.Push(m); e != api.OK {
			t.Errorf("Push(%v): %d", m, e)
		}
	}
	holds(t, q, want...)
	popped(t, q, want...)
}

// P3.2: what is there already is told ahead of what has no room, and is left as it is.
func TestPushRefuses(t *testing.T) {
	q := filled(t, 2, at(5), at(3))
	other := at(5)
	other.To, other.Class, other.Body = -1, -2, -3
	for range 2 {
		for _, x := range []struct {
			m    api.Msg
			want api.Errno
		}{
			{at(5), api.ErrTwice}, {other, api.ErrTwice}, {at(3), api.ErrTwice},
			{at(1), api.ErrFull}, {at(4), api.ErrFull}, {at(9), api.ErrFull}, {msg(5, 0, 1), api.ErrFull}, {msg(5, 1, 0), api.ErrFull},
		} {
			if e := q.Push(x.m); e != x.want {
				t.Errorf("Push(%v): %d, not %d", x.m, e, x.want)
			}
			holds(t, q, at(3), at(5))
		}
	}
	popped(t, q, at(3), at(5))
}

// P3.2
func TestPushTwiceWhereThereIsRoom(t *testing.T) {
	q := filled(t, 9, at(5))
	if e := q.Push(at(5)); e != api.ErrTwice {
		t.Errorf("%d", e)
	}
	for _, m := range []api.Msg{msg(5, 0, 1), msg(5, 1, 0), msg(6, 0, 0), msg(5, -1, 0)} {
		if e := q.Push(m); e != api.OK {
			t.Errorf("one that only looks alike, %v: %d", m, e)
		}
	}
	holds(t, q, msg(5, -1, 0), at(5), msg(5, 0, 1), msg(5, 1, 0), at(6))
}

// P3.2: what is gone may come again, with other parts, and leaves its room.
func TestPushAgain(t *testing.T) {
	again := at(3)
	again.Body = 7
	q := filled(t, 2, at(3), at(5))
	q.Pop()
	if e := q.Push(again); e != api.OK {
		t.Errorf("after Pop: %d", e)
	}
	holds(t, q, again, at(5))
	if m, is := q.Remove(again.Key); m != again || !is {
		t.Errorf("Remove: %v, %v", m, is)
	}
	if e := q.Push(at(3)); e != api.OK {
		t.Errorf("after Remove: %d", e)
	}
	holds(t, q, at(3), at(5))
	if e := q.Push(at(4)); e != api.ErrFull {
		t.Errorf("no room: %d", e)
	}
}

// P3.2
func TestOfNone(t *testing.T) {
	for _, q := range []*prio.Queue{prio.New(0), prio.New(3)} {
		for range 2 {
			popped(t, q)
			if m, is := q.Remove(api.Key{}); m != (api.Msg{}) || is {
				t.Errorf("Remove: %v, %v", m, is)
			}
			if l := q.Below(math.MaxInt); len(l) != 0 {
				t.Errorf("Below: %v", l)
			}
			holds(t, q)
		}
	}
}

// P3.2
func TestFirstStays(t *testing.T) {
	q := filled(t, 4, at(7), at(2), at(5))
	holds(t, q, at(2), at(5), at(7))
	holds(t, q, at(2), at(5), at(7))
	popped(t, q, at(2), at(5), at(7))
}

// P3.2: each of the messages is removed, whatever the order in which they came.
func TestRemove(t *testing.T) {
	sorted := []api.Msg{msg(1, 0, 0), msg(1, 0, 1), msg(1, 2, 0), msg(4, 0, 0), msg(6, 0, 0), msg(6, 1, 0)}
	orders(slices.Clone(sorted), func(order []api.Msg) {
		for i, m := range sorted {
			q := filled(t, len(order), order...)
			if got, is := q.Remove(m.Key); got != m || !is {
				t.Errorf("Remove(%v): %v, %v", m.Key, got, is)
			}
			if got, is := q.Remove(m.Key); got != (api.Msg{}) || is {
				t.Errorf("Remove(%v) again: %v, %v", m.Key, got, is)
			}
			popped(t, q, slices.Delete(slices.Clone(sorted), i, i+1)...)
		}
	})
}

// P3.2
func TestRemoveOfWhatIsNotThere(t *testing.T) {
	q := filled(t, 3, msg(5, 2, 7), msg(3, 1, 1))
	for _, k := range []api.Key{{}, {T: 5}, {T: 5, From: 2}, {T: 5, From: 2, Seq: 6}, {T: 5, From: 1, Seq: 7}, {T: 4, From: 2, Seq: 7}, {T: math.MinInt}, {T: math.MaxInt}} {
		if m, is := q.Remove(k); m != (api.Msg{}) || is {
			t.Errorf("Remove(%v): %v, %v", k, m, is)
		}
	}
	holds(t, q, msg(3, 1, 1), msg(5, 2, 7))
}

// P3.3
func TestListIsInOrder(t *testing.T) {
	sorted := []api.Msg{msg(-2, 9, 9), msg(0, 0, 3), msg(0, 0, 4), msg(0, 1, 0), msg(2, -1, 5), msg(2, 0, 0)}
	orders(slices.Clone(sorted), func(order []api.Msg) {
		q := filled(t, len(order), order...)
		holds(t, q, sorted...)
		holds(t, q, sorted...)
	})
}

// P3.3
func TestBelow(t *testing.T) {
	sorted := []api.Msg{at(math.MinInt), at(-1), at(0), msg(5, 0, 1), msg(5, 3, 0), at(9), at(math.MaxInt)}
	q := filled(t, len(sorted), sorted[5], sorted[2], sorted[4], sorted[6], sorted[0], sorted[3], sorted[1])
	for _, x := range []struct{ t, want int }{
		{math.MinInt, 0}, {math.MinInt + 1, 1}, {-1, 1}, {0, 2}, {1, 3}, {5, 3}, {6, 5}, {9, 5}, {10, 6}, {api.Inf, 6}, {math.MaxInt, 6},
	} {
		if got := q.Below(x.t); !slices.Equal(got, sorted[:x.want]) {
			t.Errorf("Below(%d): %v, not %v", x.t, got, sorted[:x.want])
		}
	}
	holds(t, q, sorted...)
}

// P3.3, with R3: what a call answered is the caller's own, with its spare room.
func TestAnswersAreNewMemory(t *testing.T) {
	q := filled(t, 8, at(5), at(3), at(9))
	for _, tell := range []func() []api.Msg{
		q.List,
		func() []api.Msg { return q.Below(9) },
		func() []api.Msg { return q.Below(math.MaxInt) },
	} {
		a, b := tell(), tell()
		want := slices.Clone(a)
		room := a[:cap(a)]
		for i := range room {
			room[i] = at(-77)
		}
		if !slices.Equal(b, want) {
			t.Errorf("two answers share memory: %v, not %v", b, want)
		}
		holds(t, q, at(3), at(5), at(9))
	}
	l, early := q.List(), q.Below(9)
	q.Pop()
	q.Push(at(1))
	if !slices.Equal(l, []api.Msg{at(3), at(5), at(9)}) || !slices.Equal(early, []api.Msg{at(3), at(5)}) {
		t.Errorf("an answer changed: %v, %v", l, early)
	}
}

// P3.4
func TestWhatIsPoppedComesInOrder(t *testing.T) {
	q := prio.New(api.MaxQueue)
	for i := range api.MaxQueue {
		n := i * 37 % api.MaxQueue
		if e := q.Push(msg(n%5, n/5%4, n)); e != api.OK {
			t.Fatalf("%d", e)
		}
	}
	want := q.List()
	for i := range want {
		if i > 0 && vtime.Cmp(want[i-1].Key, want[i].Key) >= 0 {
			t.Errorf("%v ahead of %v", want[i-1].Key, want[i].Key)
		}
	}
	popped(t, q, want...)
}

// model is a queue by another way than the program's: a list that is sorted at each push.
type model struct {
	room int
	msgs []api.Msg
}

func (m *model) find(k api.Key) int {
	return slices.IndexFunc(m.msgs, func(x api.Msg) bool { return x.Key == k })
}

func (m *model) push(x api.Msg) api.Errno {
	if m.find(x.Key) >= 0 {
		return api.ErrTwice
	}
	if len(m.msgs) == m.room {
		return api.ErrFull
	}
	m.msgs = append(m.msgs, x)
	slices.SortFunc(m.msgs, func(a, b api.Msg) int {
		return cmp.Or(a.Key.T-b.Key.T, a.Key.From-b.Key.From, a.Key.Seq-b.Key.Seq)
	})
	return api.OK
}

func (m *model) take(i int) (api.Msg, bool) {
	if i < 0 || i >= len(m.msgs) {
		return api.Msg{}, false
	}
	x := m.msgs[i]
	m.msgs = slices.Delete(m.msgs, i, i+1)
	return x, true
}

// P3.2, P3.3, P3.4: whatever is called, in whatever order, it is as of the model.
func TestLongRuns(t *testing.T) {
	for _, room := range []int{1, 2, 5, 17, api.MaxQueue} {
		q, m := prio.New(room), &model{room: room}
		n := uint64(room)
		draw := func(below int) int {
			n = n*6364136223846793005 + 1442695040888963407
			return int((n >> 33) % uint64(below))
		}
		for step := range 4000 {
			x := msg(draw(6), draw(3), draw(5))
			x.Body = step
			switch draw(7) {
			case 0:
				got, is := q.Pop()
				if want, wantIs := m.take(0); got != want || is != wantIs {
					t.Fatalf("Pop: %v, %v, not %v", got, is, want)
				}
			case 1:
				got, is := q.Remove(x.Key)
				if want, wantIs := m.take(m.find(x.Key)); got != want || is != wantIs {
					t.Fatalf("Remove: %v, %v, not %v", got, is, want)
				}
			default:
				if e, want := q.Push(x), m.push(x); e != want {
					t.Fatalf("Push: %d, not %d", e, want)
				}
			}
			holds(t, q, m.msgs...)
			early := slices.DeleteFunc(slices.Clone(m.msgs), func(y api.Msg) bool { return y.Key.T >= x.Key.T })
			if got := q.Below(x.Key.T); !slices.Equal(got, early) {
				t.Fatalf("Below: %v, not %v", got, early)
			}
			if t.Failed() {
				t.FailNow()
			}
		}
	}
}

// R5: the same calls on two queues answer the same.
func TestOneAnswer(t *testing.T) {
	a, b := filled(t, 5, at(4), at(2), at(8), at(6)), filled(t, 5, at(4), at(2), at(8), at(6))
	a.Remove(at(2).Key)
	b.Remove(at(2).Key)
	if !slices.Equal(a.List(), b.List()) || !slices.Equal(a.Below(8), b.Below(8)) {
		t.Errorf("%v, %v", a.List(), b.List())
	}
}
