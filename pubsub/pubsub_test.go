package pubsub_test

import (
	"math"
	"slices"
	"testing"

	"paceline/api"
	"paceline/pubsub"
	"paceline/tree"
)

// two is two trees: 0 with 1, 2 and 3 (a kind of 1), and 4 with 5.
var two = []int{-1, 0, 0, 1, -1, 4}

// made is a table of these parents.
func made(t *testing.T, parents []int) *pubsub.Table {
	t.Helper()
	x, e := pubsub.New(parents)
	if x == nil || e != api.OK {
		t.Fatalf("New(%v): %v, %d", parents, x, e)
	}
	return x
}

// is holds the answer to a call against an error's number.
func is(t *testing.T, call string, got, want api.Errno) {
	t.Helper()
	if got != want {
		t.Errorf("%s: %d, not %d", call, got, want)
	}
}

// routed: what f sends of c goes to just these.
func routed(t *testing.T, x *pubsub.Table, f, c int, want ...int) {
	t.Helper()
	if got, e := x.Route(f, c); !slices.Equal(got, want) || e != api.OK {
		t.Errorf("Route(%d, %d): %v, %d, not %v", f, c, got, e, want)
	}
}

// refused: Route answers that error, and nobody.
func refused(t *testing.T, x *pubsub.Table, f, c int, want api.Errno) {
	t.Helper()
	if got, e := x.Route(f, c); len(got) != 0 || e != want {
		t.Errorf("Route(%d, %d): %v, %d, not %d", f, c, got, e, want)
	}
}

// noFeds are numbers that are no federates.
var noFeds = []int{math.MinInt, -9, -2, -1, api.MaxFeds, api.MaxFeds + 1, 64, math.MaxInt}

// noClasses are numbers that are no classes of n.
func noClasses(n int) []int {
	return []int{math.MinInt, -64, -32, -2, -1, n, n + 1, api.MaxClass, api.MaxClass + 1, 31, 32, 64, math.MaxInt}
}

// model is what a table is held against: who publishes, and subscribes to, which class, one by one.
type model struct {
	parents []int
	pubs    [api.MaxFeds][api.MaxClass]bool
	subs    [api.MaxFeds][api.MaxClass]bool
}

// hears goes upwards from c by the parents alone.
func (m *model) hears(f, c int) bool {
	for ; c >= 0; c = m.parents[c] {
		if m.subs[f][c] {
			return true
		}
	}
	return false
}

// same: of each federate and class the table tells what the model does.
func (m *model) same(t *testing.T, x *pubsub.Table) {
	t.Helper()
	for f := range api.MaxFeds {
		for c := range m.parents {
			if got := x.Publishes(f, c); got != m.pubs[f][c] {
				t.Errorf("Publishes(%d, %d): %v", f, c, got)
			}
			if got := x.Hears(f, c); got != m.hears(f, c) {
				t.Errorf("Hears(%d, %d): %v", f, c, got)
			}
			if !m.pubs[f][c] {
				refused(t, x, f, c, api.ErrPublish)
				continue
			}
			var to []int
			for other := range api.MaxFeds {
				if other != f && m.hears(other, c) {
					to = append(to, other)
				}
			}
			routed(t, x, f, c, to...)
		}
	}
}

// The chapter's example.
func TestExample(t *testing.T) {
	x := made(t, []int{-1, 0})
	is(t, "Publish", x.Publish(0, 1, true), api.OK)
	is(t, "Subscribe", x.Subscribe(1, 0, true), api.OK)
	is(t, "Subscribe", x.Subscribe(2, 1, true), api.OK)
	routed(t, x, 0, 1, 1, 2)
}

// P6.1: what tree.Check refuses makes no table.
func TestNoTree(t *testing.T) {
	for _, parents := range [][]int{
		nil, {}, {0}, {-2}, {1, 0}, {-1, 1}, {-1, 2, 0}, {math.MinInt}, {-1, math.MaxInt},
		slices.Repeat([]int{-1}, api.MaxClass+1), slices.Repeat([]int{-1}, 300),
	} {
		if x, e := pubsub.New(parents); x != nil || e != tree.Check(parents) || e != api.ErrTree {
			t.Errorf("New(%v): %v, %d", parents, x, e)
		}
	}
}

// P6.1: at first nobody publishes, or subscribes to, anything.
func TestNewIsEmpty(t *testing.T) {
	for _, parents := range [][]int{{-1}, {-1, 0}, two, slices.Repeat([]int{-1}, api.MaxClass)} {
		(&model{parents: parents}).same(t, made(t, parents))
	}
}

// P6.1, with R3: parents are neither kept nor changed, nor what lies behind them.
func TestParentsAreNotKept(t *testing.T) {
	room := append(slices.Clone(two), 7, 8)
	parents := room[:len(two)]
	x := made(t, parents)
	x.Publish(0, 3, true)
	x.Subscribe(1, 0, true)
	x.Subscribe(2, 4, true)
	routed(t, x, 0, 3, 1)
	if want := append(slices.Clone(two), 7, 8); !slices.Equal(room, want) {
		t.Errorf("the parents are %v, not %v", room, want)
	}
	for i := range room {
		room[i] = -1
	}
	room[3] = 4
	routed(t, x, 0, 3, 1)
}

// P6.2: each of both is turned on and off, again and again, and neither turns the other.
func TestPublishAndSubscribe(t *testing.T) {
	x, m := made(t, two), &model{parents: two}
	for _, s := range []struct {
		f, c    int
		sub, on bool
	}{
		{0, 3, false, true}, {0, 3, false, true}, {1, 3, true, true}, {1, 3, true, true},
		{1, 1, true, true}, {0, 0, false, true}, {0, 3, false, false}, {0, 3, false, false},
		{1, 3, true, false}, {2, 0, true, false}, {7, 5, false, true}, {6, 4, true, true},
		{0, 3, false, true}, {1, 1, true, false}, {1, 3, true, true}, {0, 3, true, true},
		{0, 3, true, false}, {7, 5, true, true}, {7, 5, false, false},
	} {
		if s.sub {
			is(t, "Subscribe", x.Subscribe(s.f, s.c, s.on), api.OK)
			m.subs[s.f][s.c] = s.on
		} else {
			is(t, "Publish", x.Publish(s.f, s.c, s.on), api.OK)
			m.pubs[s.f][s.c] = s.on
		}
		m.same(t, x)
	}
}

// P6.2: the last federate and the last class of a full tree have their place, and no other's.
func TestEachHasItsPlace(t *testing.T) {
	parents := slices.Repeat([]int{-1}, api.MaxClass)
	for f := range api.MaxFeds {
		for c := range parents {
			x, m := made(t, parents), &model{parents: parents}
			x.Publish(f, c, true)
			m.pubs[f][c] = true
			m.same(t, x)
			other := (f + 3) % api.MaxFeds
			x.Subscribe(other, c, true)
			m.subs[other][c] = true
			m.same(t, x)
		}
	}
}

// filled is a table of two in which some publish and subscribe, and its model.
func filled(t *testing.T) (*pubsub.Table, *model) {
	t.Helper()
	x, m := made(t, two), &model{parents: two}
	for f := range api.MaxFeds {
		for c := range two {
			if (f+c)%2 == 0 {
				is(t, "Publish", x.Publish(f, c, true), api.OK)
				m.pubs[f][c] = true
			}
			if (f*3+c)%4 == 0 {
				is(t, "Subscribe", x.Subscribe(f, c, true), api.OK)
				m.subs[f][c] = true
			}
		}
	}
	m.same(t, x)
	return x, m
}

// P6.2: who leaves publishes and subscribes to nothing; of all others nothing is changed; it may come again.
func TestLeave(t *testing.T) {
	for f := range api.MaxFeds {
		x, m := filled(t)
		for range 2 {
			is(t, "Leave", x.Leave(f), api.OK)
			m.pubs[f], m.subs[f] = [api.MaxClass]bool{}, [api.MaxClass]bool{}
			m.same(t, x)
		}
		is(t, "Publish", x.Publish(f, 3, true), api.OK)
		is(t, "Subscribe", x.Subscribe(f, 1, true), api.OK)
		m.pubs[f][3], m.subs[f][1] = true, true
		m.same(t, x)
	}
}

// P6.2, P6.4, with R2: what names no federate is ErrArg, whatever the class; nothing is changed.
func TestNoFederate(t *testing.T) {
	x, m := filled(t)
	for _, f := range noFeds {
		is(t, "Leave", x.Leave(f), api.ErrArg)
		for _, c := range append(noClasses(len(two)), 0, 3, 5) {
			for _, on := range []bool{true, false} {
				is(t, "Publish", x.Publish(f, c, on), api.ErrArg)
				is(t, "Subscribe", x.Subscribe(f, c, on), api.ErrArg)
			}
			refused(t, x, f, c, api.ErrArg)
		}
	}
	m.same(t, x)
}

// P6.2, P6.4, with R2: what names no class is ErrClass; nothing is changed.
func TestNoClass(t *testing.T) {
	x, m := filled(t)
	for f := range api.MaxFeds {
		for _, c := range noClasses(len(two)) {
			for _, on := range []bool{true, false} {
				is(t, "Publish", x.Publish(f, c, on), api.ErrClass)
				is(t, "Subscribe", x.Subscribe(f, c, on), api.ErrClass)
			}
			refused(t, x, f, c, api.ErrClass)
		}
	}
	m.same(t, x)
}

// P6.3: who publishes a class publishes neither what is above it nor its kinds.
func TestPublishesIsOfOneClass(t *testing.T) {
	x := made(t, two)
	x.Publish(0, 1, true)
	for c := range two {
		if got := x.Publishes(0, c); got != (c == 1) {
			t.Errorf("Publishes(0, %d): %v", c, got)
		}
	}
}

// P6.3: who subscribes to a class hears it and its kinds, and nothing else.
func TestHearsTheKinds(t *testing.T) {
	for sub := range two {
		x := made(t, two)
		x.Subscribe(4, sub, true)
		for c := range two {
			if got, want := x.Hears(4, c), slices.Contains(tree.Above(two, c), sub); got != want {
				t.Errorf("subscribed to %d, Hears(4, %d): %v", sub, c, got)
			}
		}
	}
}

// P6.3: who subscribes to two classes hears till it subscribes to neither.
func TestHearsTillTheLast(t *testing.T) {
	x := made(t, two)
	x.Subscribe(1, 0, true)
	x.Subscribe(1, 1, true)
	x.Subscribe(1, 0, false)
	if !x.Hears(1, 3) || x.Hears(1, 2) || x.Hears(1, 0) {
		t.Error("without 0")
	}
	x.Subscribe(1, 1, false)
	if x.Hears(1, 3) || x.Hears(1, 1) {
		t.Error("without 1")
	}
}

// P6.3: false, if there is no such federate, no such class.
func TestNobodyHearsNothing(t *testing.T) {
	x := made(t, two)
	for f := range api.MaxFeds {
		for c := range two {
			x.Publish(f, c, true)
			x.Subscribe(f, c, true)
		}
	}
	for _, f := range noFeds {
		for _, c := range append(noClasses(len(two)), 0, 3) {
			if x.Publishes(f, c) || x.Hears(f, c) {
				t.Errorf("federate %d, class %d", f, c)
			}
		}
	}
	for _, c := range noClasses(len(two)) {
		if x.Publishes(0, c) || x.Hears(0, c) {
			t.Errorf("class %d", c)
		}
	}
}

// P6.4: not to who sends; not unless just that class is published; rising, in whatever order they came.
func TestRoute(t *testing.T) {
	x := made(t, two)
	for _, f := range []int{7, 2, 5, 0, 1} {
		x.Subscribe(f, 1, true)
	}
	x.Subscribe(3, 2, true)
	x.Subscribe(4, 3, true)
	refused(t, x, 2, 1, api.ErrPublish)
	x.Publish(2, 1, true)
	routed(t, x, 2, 1, 0, 1, 5, 7)
	refused(t, x, 2, 3, api.ErrPublish)
	refused(t, x, 2, 0, api.ErrPublish)
	x.Publish(2, 3, true)
	routed(t, x, 2, 3, 0, 1, 4, 5, 7)
	x.Publish(6, 3, true)
	routed(t, x, 6, 3, 0, 1, 2, 4, 5, 7)
	x.Publish(6, 5, true)
	routed(t, x, 6, 5)
	x.Publish(2, 3, false)
	refused(t, x, 2, 3, api.ErrPublish)
}

// P6.4, with R3: an answer is new memory, and asking changes nothing.
func TestRouteIsNewMemory(t *testing.T) {
	x, m := filled(t)
	for f := range api.MaxFeds {
		for c := range two {
			want, e := x.Route(f, c)
			if e != api.OK {
				continue
			}
			scratch, _ := x.Route(f, c)
			scratch = scratch[:cap(scratch)]
			for i := range scratch {
				scratch[i] = -77
			}
			routed(t, x, f, c, want...)
		}
	}
	m.same(t, x)
}

// R3: two tables have nothing in common.
func TestTwoTables(t *testing.T) {
	x, m := filled(t)
	y := made(t, two)
	(&model{parents: two}).same(t, y)
	y.Publish(0, 1, true)
	y.Leave(2)
	m.same(t, x)
}

// numbers tells numbers below n, the same ones for the same seed.
func numbers(seed uint32) func(n int) int {
	return func(n int) int {
		seed = seed*1664525 + 1013904223
		return int(seed>>8) % n
	}
}

// P6.5, with P6.2 to P6.4: whatever is called, in whatever order, on many trees.
func TestLongRuns(t *testing.T) {
	next := numbers(6)
	for range 20 {
		parents := make([]int, 1+next(api.MaxClass))
		for class := range parents {
			parents[class] = next(class+1) - 1
		}
		x, m := made(t, parents), &model{parents: parents}
		for range 150 {
			f, c, on := next(api.MaxFeds), next(len(parents)), next(3) > 0
			switch next(9) {
			case 0:
				is(t, "Leave", x.Leave(f), api.OK)
				m.pubs[f], m.subs[f] = [api.MaxClass]bool{}, [api.MaxClass]bool{}
			case 1, 2, 3, 4:
				is(t, "Publish", x.Publish(f, c, on), api.OK)
				m.pubs[f][c] = on
			default:
				is(t, "Subscribe", x.Subscribe(f, c, on), api.OK)
				m.subs[f][c] = on
			}
			m.same(t, x)
			if t.Failed() {
				t.FailNow()
			}
		}
	}
}

// P6.5: what one federate does changes nothing of who else hears.
func TestOthersHearTheSame(t *testing.T) {
	hear := func(x *pubsub.Table, but int) []bool {
		var all []bool
		for f := range api.MaxFeds {
			for c := range two {
				all = append(all, f != but && x.Hears(f, c))
			}
		}
		return all
	}
	for f := range api.MaxFeds {
		for c := range two {
			x, _ := filled(t)
			want := hear(x, f)
			for i, does := range []func(){
				func() { x.Publish(f, c, true) },
				func() { x.Publish(f, c, false) },
				func() { x.Subscribe(f, c, true) },
				func() { x.Subscribe(f, c, false) },
				func() { x.Route(f, c) },
				func() { x.Leave(f) },
			} {
				if does(); !slices.Equal(hear(x, f), want) {
					t.Errorf("federate %d, class %d, call %d: others hear otherwise", f, c, i)
				}
			}
		}
	}
}
