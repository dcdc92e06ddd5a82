package link_test

import (
	"math"
	"slices"
	"testing"

	"paceline/api"
	"paceline/link"
)

// item is one whose parts tell it from each other one of the same kind, time and colour.
func item(kind, t, colour, mark int) api.Item {
	m := api.Msg{Key: api.Key{T: t, From: 100 + mark, Seq: 200 + mark}, To: 300 + mark, Class: 400 + mark, Body: 500 + mark}
	return api.Item{Kind: kind, Msg: m, Colour: colour}
}

// plain is a message of the time t, of the colour 0.
func plain(t int) api.Item { return item(api.Plain, t, 0, t) }

// made is a net of n federates, with that room.
func made(t *testing.T, n, room int) *link.Net {
	t.Helper()
	x, e := link.New(n, room)
	if x == nil || e != api.OK {
		t.Fatalf("New(%d, %d): %v, %d", n, room, x, e)
	}
	return x
}

// sent: x takes all items onto the link from a to b.
func sent(t *testing.T, x *link.Net, a, b int, items ...api.Item) {
	t.Helper()
	for _, i := range items {
		if e := x.Send(a, b, i); e != api.OK {
			t.Fatalf("Send(%d, %d, %v): %d", a, b, i, e)
		}
	}
}

// refused: x answers that error to the send.
func refused(t *testing.T, x *link.Net, a, b int, i api.Item, want api.Errno) {
	t.Helper()
	if e := x.Send(a, b, i); e != want {
		t.Errorf("Send(%d, %d, %v): %d, not %d", a, b, i, e, want)
	}
}

// told: what a call of that name answered is want, or nothing, if there is none.
func told(t *testing.T, call string, got api.Item, is bool, want ...api.Item) {
	t.Helper()
	if len(want) == 0 {
		if is || got != (api.Item{}) {
			t.Errorf("%s of nothing: %v, %v", call, got, is)
		}
		return
	}
	if !is || got != want[0] {
		t.Errorf("%s: %v, %v, not %v", call, got, is, want[0])
	}
}

// received: the link from a to b has just these items.
func received(t *testing.T, x *link.Net, a, b int, want ...api.Item) {
	t.Helper()
	for n := range len(want) + 1 {
		got, is := x.Recv(a, b)
		told(t, "Recv", got, is, want[n:]...)
	}
}

// counts: x tells that many items of each colour, that least time, that many items in all.
func counts(t *testing.T, x *link.Net, zero, one, least, all int) {
	t.Helper()
	if got := x.Carried(0); got != zero {
		t.Errorf("Carried(0): %d, not %d", got, zero)
	}
	if got := x.Carried(1); got != one {
		t.Errorf("Carried(1): %d, not %d", got, one)
	}
	for _, colour := range noColours {
		if got := x.Carried(colour); got != 0 {
			t.Errorf("Carried(%d): %d", colour, got)
		}
	}
	if got := x.Least(); got != least {
		t.Errorf("Least: %d, not %d", got, least)
	}
	if got := x.All(); got != all {
		t.Errorf("All: %d, not %d", got, all)
	}
}

var (
	noColours = []int{math.MinInt, -2, -1, 2, 3, math.MaxInt}
	noKinds   = []int{math.MinInt, -2, -1, 3, 4, math.MaxInt}
)

// pairs are the numbers around all federates, in twos, those of no federates among them.
func pairs() [][2]int {
	numbers := []int{math.MinInt, -api.MaxFeds, -1}
	for f := range api.MaxFeds + 2 {
		numbers = append(numbers, f)
	}
	numbers = append(numbers, api.MaxFeds*api.MaxFeds, math.MaxInt)
	var all [][2]int
	for _, a := range numbers {
		for _, b := range numbers {
			all = append(all, [2]int{a, b})
		}
	}
	return all
}

// isLink tells which pair has a link among n federates.
func isLink(n int, p [2]int) bool {
	return p[0] >= 0 && p[0] < n && p[1] >= 0 && p[1] < n && p[0] != p[1]
}

// model is a net by another way than the program's: a list for each link, by who sends and who receives.
type model struct {
	n, room int
	lists   map[[2]int][]api.Item
}

func modelOf(n, room int) *model {
	return &model{n: n, room: room, lists: map[[2]int][]api.Item{}}
}

func (m *model) send(p [2]int, i api.Item) api.Errno {
	if !isLink(m.n, p) || !slices.Contains([]int{0, 1, 2}, i.Kind) || !slices.Contains([]int{0, 1}, i.Colour) {
		return api.ErrArg
	}
	if len(m.lists[p]) >= m.room {
		return api.ErrFull
	}
	m.lists[p] = append(m.lists[p], i)
	return api.OK
}

func (m *model) recv(p [2]int) []api.Item {
	first := m.lists[p][:min(1, len(m.lists[p]))]
	m.lists[p] = m.lists[p][len(first):]
	return first
}

// same: of each pair, and of all links, the net tells what the model does.
func (m *model) same(t *testing.T, x *link.Net) {
	t.Helper()
	var carried [2]int
	least, all := api.Inf, 0
	for _, l := range m.lists {
		all += len(l)
		for _, i := range l {
			if i.Kind == 2 {
				continue
			}
			carried[i.Colour]++
			switch at := i.Msg.Key.T; {
			case at < 0:
				least = 0
			case at <= api.MaxTime:
				least = min(least, at)
			}
		}
	}
	counts(t, x, carried[0], carried[1], least, all)
	for _, p := range pairs() {
		a, b, room := p[0], p[1], 0
		if isLink(m.n, p) {
			room = m.room - len(m.lists[p])
		}
		if got := x.Len(a, b); got != len(m.lists[p]) {
			t.Errorf("Len(%d, %d): %d, not %d", a, b, got, len(m.lists[p]))
		}
		if got := x.Room(a, b); got != room {
			t.Errorf("Room(%d, %d): %d, not %d", a, b, got, room)
		}
		got, is := x.First(a, b)
		told(t, "First", got, is, m.lists[p]...)
	}
}

// The chapter's example.
func TestExample(t *testing.T) {
	x := made(t, 2, 2)
	sent(t, x, 0, 1, plain(5), plain(3))
	i, is := x.Recv(0, 1)
	told(t, "Recv", i, is, plain(5))
	i, is = x.Recv(1, 0)
	told(t, "Recv", i, is)
}

// P10.1
func TestNewRefuses(t *testing.T) {
	wrongFeds := []int{math.MinInt, -8, -1, 0, api.MaxFeds + 1, 16, 64, math.MaxInt}
	wrongRooms := []int{math.MinInt, -16, -1, 0, api.MaxLink + 1, 64, math.MaxInt}
	try := func(n, room int) {
		if x, e := link.New(n, room); x != nil || e != api.ErrArg {
			t.Errorf("New(%d, %d): %v, %d", n, room, x, e)
		}
	}
	for _, n := range wrongFeds {
		try(n, 1)
		try(n, api.MaxLink)
		for _, room := range wrongRooms {
			try(n, room)
		}
	}
	for _, room := range wrongRooms {
		try(1, room)
		try(api.MaxFeds, room)
	}
}

// P10.1: each to each other one has a link, at first empty, with just that room.
func TestNew(t *testing.T) {
	for n := 1; n <= api.MaxFeds; n++ {
		for room := 1; room <= api.MaxLink; room++ {
			x, m := made(t, n, room), modelOf(n, room)
			m.same(t, x)
			for _, p := range pairs() {
				for at := range room {
					if e, want := x.Send(p[0], p[1], plain(at)), m.send(p, plain(at)); e != want {
						t.Errorf("of %d, %d: Send %d of %v: %d, not %d", n, room, at, p, e, want)
					}
				}
				if isLink(n, p) {
					refused(t, x, p[0], p[1], plain(99), api.ErrFull)
				}
			}
			m.same(t, x)
			for _, p := range pairs() {
				received(t, x, p[0], p[1], m.lists[p]...)
			}
			modelOf(n, room).same(t, x)
		}
	}
}

// P10.1: one federate has no link.
func TestOneAlone(t *testing.T) {
	x := made(t, 1, api.MaxLink)
	for _, p := range pairs() {
		refused(t, x, p[0], p[1], plain(1), api.ErrArg)
		received(t, x, p[0], p[1])
	}
	modelOf(1, api.MaxLink).same(t, x)
}

// P10.2: what is no link, no kind or no colour is told, and changes nothing.
func TestSendOfWhatMayNotBe(t *testing.T) {
	x, m := made(t, 3, 2), modelOf(3, 2)
	p := [2]int{0, 1}
	sent(t, x, 0, 1, plain(7))
	m.send(p, plain(7))
	for _, y := range pairs() {
		if !isLink(3, y) {
			refused(t, x, y[0], y[1], plain(1), api.ErrArg)
		}
	}
	for _, kind := range noKinds {
		refused(t, x, 0, 1, item(kind, 1, 0, 1), api.ErrArg)
		refused(t, x, 1, 2, item(kind, 1, 1, 1), api.ErrArg)
	}
	for _, colour := range noColours {
		for kind := range 3 {
			refused(t, x, 0, 1, item(kind, 1, colour, 1), api.ErrArg)
			refused(t, x, 1, 2, item(kind, 1, colour, 1), api.ErrArg)
		}
	}
	m.same(t, x)
	received(t, x, 0, 1, plain(7))
}

// P10.2: each kind and colour goes, whatever else the item has.
func TestSendOfWhatMayBe(t *testing.T) {
	var items []api.Item
	for kind := range 3 {
		for colour := range 2 {
			items = append(items, item(kind, 9, colour, kind))
		}
	}
	edges := []int{math.MinInt, -1, 0, api.MaxTime, api.MaxTime + 1, api.Inf, math.MaxInt}
	for _, n := range edges {
		items = append(items, api.Item{Msg: api.Msg{Key: api.Key{T: n, From: n, Seq: n}, To: n, Class: n, Body: n}})
	}
	x := made(t, 2, len(items))
	sent(t, x, 1, 0, items...)
	received(t, x, 1, 0, items...)
}

// P10.2: what may not be is told ahead of what has no room; a full link takes no kind, a refusal changes nothing.
func TestSendWithoutRoom(t *testing.T) {
	for _, room := range []int{1, 2, api.MaxLink} {
		x, m := made(t, 2, room), modelOf(2, room)
		for at := range room {
			sent(t, x, 0, 1, plain(at+5))
			m.send([2]int{0, 1}, plain(at+5))
		}
		for range 2 {
			for kind := range 3 {
				refused(t, x, 0, 1, item(kind, 1, 1, 1), api.ErrFull)
			}
			refused(t, x, 0, 1, item(3, 1, 0, 1), api.ErrArg)
			refused(t, x, 0, 1, item(0, 1, 2, 1), api.ErrArg)
			refused(t, x, 0, 0, plain(1), api.ErrArg)
			refused(t, x, 0, 2, plain(1), api.ErrArg)
			m.same(t, x)
		}
		received(t, x, 0, 1, m.lists[[2]int{0, 1}]...)
	}
}

// P10.2: the same item may be there more than once.
func TestSendTwice(t *testing.T) {
	x := made(t, 2, 3)
	sent(t, x, 0, 1, plain(4), plain(4), plain(4))
	counts(t, x, 3, 0, 4, 3)
	received(t, x, 0, 1, plain(4), plain(4), plain(4))
}

// P10.2
func TestFirstStays(t *testing.T) {
	x := made(t, 2, 3)
	sent(t, x, 0, 1, plain(9), plain(2))
	for range 3 {
		i, is := x.First(0, 1)
		told(t, "First", i, is, plain(9))
	}
	received(t, x, 0, 1, plain(9), plain(2))
	i, is := x.First(0, 1)
	told(t, "First", i, is)
}

// P10.2: an item of zero parts is told from nothing.
func TestZeroItem(t *testing.T) {
	x := made(t, 2, 2)
	sent(t, x, 0, 1, api.Item{})
	counts(t, x, 1, 0, 0, 1)
	i, is := x.First(0, 1)
	told(t, "First", i, is, api.Item{})
	received(t, x, 0, 1, api.Item{})
	counts(t, x, 0, 0, api.Inf, 0)
}

// P10.2: nothing is received of what is empty, or no link; and that leaves the others as they are.
func TestRecvOfNothing(t *testing.T) {
	x, m := made(t, 3, 2), modelOf(3, 2)
	sent(t, x, 2, 0, plain(6))
	m.send([2]int{2, 0}, plain(6))
	for range 3 {
		for _, p := range pairs() {
			if p != [2]int{2, 0} {
				received(t, x, p[0], p[1])
			}
		}
		m.same(t, x)
	}
	received(t, x, 2, 0, plain(6))
	received(t, x, 2, 0)
	sent(t, x, 2, 0, plain(1), plain(2))
	refused(t, x, 2, 0, plain(3), api.ErrFull)
	received(t, x, 2, 0, plain(1), plain(2))
}

// P10.2, P10.4: a link goes round and round, with any many items on it, and keeps its order and its room.
func TestRoundAndRound(t *testing.T) {
	for room := 1; room <= api.MaxLink; room++ {
		for waiting := range room {
			x := made(t, 2, room)
			for at := range waiting {
				sent(t, x, 1, 0, plain(at))
			}
			for at := waiting; at < waiting+3*api.MaxLink; at++ {
				sent(t, x, 1, 0, plain(at))
				if got, want := x.Room(1, 0), room-waiting-1; got != want {
					t.Errorf("Room: %d, not %d", got, want)
				}
				i, is := x.Recv(1, 0)
				told(t, "Recv", i, is, plain(at-waiting))
				if got := x.Len(1, 0); got != waiting {
					t.Errorf("Len: %d, not %d", got, waiting)
				}
			}
		}
	}
}

// P10.3: bounds are counted by All alone.
func TestCounts(t *testing.T) {
	x := made(t, 4, 3)
	counts(t, x, 0, 0, api.Inf, 0)
	sent(t, x, 0, 1, item(api.Bound, 1, 0, 0), item(api.Bound, 2, 1, 0))
	counts(t, x, 0, 0, api.Inf, 2)
	sent(t, x, 3, 2, item(api.Plain, 9, 0, 0))
	counts(t, x, 1, 0, 9, 3)
	sent(t, x, 2, 3, item(api.Anti, 7, 0, 0))
	counts(t, x, 2, 0, 7, 4)
	sent(t, x, 2, 3, item(api.Anti, 8, 1, 0))
	counts(t, x, 2, 1, 7, 5)
	sent(t, x, 0, 1, item(api.Plain, 5, 1, 0))
	counts(t, x, 2, 2, 5, 6)
	x.Recv(0, 1)
	x.Recv(0, 1)
	counts(t, x, 2, 2, 5, 4)
	x.Recv(0, 1)
	counts(t, x, 2, 1, 7, 3)
	x.Recv(2, 3)
	counts(t, x, 1, 1, 8, 2)
	x.Recv(2, 3)
	counts(t, x, 1, 0, 9, 1)
	x.Recv(3, 2)
	counts(t, x, 0, 0, api.Inf, 0)
}

// P10.3: times count as vtime.Least counts them, and the least may stand behind others.
func TestLeast(t *testing.T) {
	for _, y := range []struct {
		times []int
		want  int
	}{
		{[]int{5}, 5}, {[]int{5, 3}, 3}, {[]int{3, 5}, 3}, {[]int{9, 4, 6}, 4}, {[]int{0, 2}, 0},
		{[]int{-7}, 0}, {[]int{math.MinInt, 3}, 0}, {[]int{2, -1}, 0},
		{[]int{api.MaxTime}, api.MaxTime}, {[]int{api.MaxTime + 1}, api.Inf}, {[]int{api.Inf - 1}, api.Inf},
		{[]int{api.Inf}, api.Inf}, {[]int{api.Inf + 1, math.MaxInt}, api.Inf}, {[]int{math.MaxInt, api.MaxTime}, api.MaxTime},
	} {
		for _, kind := range []int{api.Plain, api.Anti} {
			one, many := made(t, 2, 3), made(t, 4, 1)
			for n, at := range y.times {
				sent(t, one, 0, 1, item(kind, at, n%2, n))
				sent(t, many, n+1, n, item(kind, at, n%2, n))
			}
			if got := one.Least(); got != y.want {
				t.Errorf("%v on one link: %d, not %d", y.times, got, y.want)
			}
			if got := many.Least(); got != y.want {
				t.Errorf("%v on many links: %d, not %d", y.times, got, y.want)
			}
		}
	}
}

// P10.3: all links are counted, those of the first and the last federates too.
func TestCountsOfAllLinks(t *testing.T) {
	for _, p := range pairs() {
		if !isLink(api.MaxFeds, p) {
			continue
		}
		x := made(t, api.MaxFeds, api.MaxLink)
		for at := range api.MaxLink {
			sent(t, x, p[0], p[1], item(api.Anti, 100-at, 1, at))
		}
		counts(t, x, 0, api.MaxLink, 100-api.MaxLink+1, api.MaxLink)
	}
	x := made(t, api.MaxFeds, api.MaxLink)
	for _, p := range pairs() {
		for n := 0; n < api.MaxLink && isLink(api.MaxFeds, p); n++ {
			sent(t, x, p[0], p[1], item(n%3, 50+n, n%2, n))
		}
	}
	// Of 16 items on a link 5 are bounds (n is 2, 5, 8, 11, 14), 2 of them of the colour 1.
	links := api.MaxFeds * (api.MaxFeds - 1)
	counts(t, x, 5*links, 6*links, 50, api.MaxLink*links)
}

// P10.4: what is done with one link leaves all others as they are, the one the other way too.
func TestLinksKnowNothingOfOneAnother(t *testing.T) {
	const n, room = 4, 3
	for _, p := range pairs() {
		if !isLink(n, p) {
			continue
		}
		x, m := made(t, n, room), modelOf(n, room)
		for _, q := range pairs() {
			if isLink(n, q) && q != p {
				i := plain(10*q[0] + q[1])
				sent(t, x, q[0], q[1], i)
				m.send(q, i)
			}
		}
		for at := range room {
			sent(t, x, p[0], p[1], plain(1000+at))
		}
		refused(t, x, p[0], p[1], plain(9), api.ErrFull)
		received(t, x, p[0], p[1], plain(1000), plain(1001), plain(1002))
		m.same(t, x)
	}
}

// P10.1, with R3: two nets have nothing in common.
func TestNetsAreTheirOwn(t *testing.T) {
	x, y := made(t, 2, 2), made(t, 2, 2)
	sent(t, x, 0, 1, plain(5), plain(6))
	counts(t, y, 0, 0, api.Inf, 0)
	sent(t, y, 0, 1, plain(8))
	x.Recv(0, 1)
	counts(t, x, 1, 0, 6, 1)
	counts(t, y, 1, 0, 8, 1)
	received(t, y, 0, 1, plain(8))
	received(t, x, 0, 1, plain(6))
}

// P10.2 to P10.4: whatever is called, in whatever order, it is as of the model.
func TestLongRuns(t *testing.T) {
	times := []int{math.MinInt, -1, 0, 1, 2, 3, 5, 8, 13, api.MaxTime, api.MaxTime + 1, api.Inf, math.MaxInt}
	for _, y := range []struct{ n, room int }{{1, 1}, {2, 1}, {2, 3}, {2, api.MaxLink}, {3, 2}, {3, 7}, {api.MaxFeds, 1}, {api.MaxFeds, api.MaxLink}} {
		x, m := made(t, y.n, y.room), modelOf(y.n, y.room)
		seed := uint64(100*y.n + y.room)
		draw := func(below int) int {
			seed = seed*6364136223846793005 + 1442695040888963407
			return int((seed >> 33) % uint64(below))
		}
		for step := range 1500 {
			p := [2]int{draw(y.n+1) - draw(2), draw(y.n+1) - draw(2)}
			// Long rows of sends, then of receives: so links are full, and empty, now and then.
			if draw(10) < 3+4*(step/300%2) {
				got, is := x.Recv(p[0], p[1])
				told(t, "Recv", got, is, m.recv(p)...)
			} else {
				i := item(draw(13)/4, times[draw(len(times))], draw(21)/10, step)
				if e, want := x.Send(p[0], p[1], i), m.send(p, i); e != want {
					t.Errorf("Send(%d, %d, %v): %d, not %d", p[0], p[1], i, e, want)
				}
			}
			m.same(t, x)
			if t.Failed() {
				t.Fatalf("of %d, %d, at step %d", y.n, y.room, step)
			}
		}
	}
}
