package table_test

import (
	"math"
	"slices"
	"testing"

	"paceline/api"
	"paceline/table"
	"paceline/vtime"
)

var (
	a = api.Out{Class: 2, Delay: 3, Add: 1}
	b = api.Out{Class: 4, Delay: 0, Add: 999}
	c = api.Out{Class: 0, Delay: 9, Add: 0}
)

// some are rules that may be: 0 and 2 follow on each other by class 1, and 7 stays.
func some() []api.Rule {
	return []api.Rule{
		{State: 0, Class: 1, Next: 2, Sends: []api.Out{a}},
		{State: 2, Class: 1, Next: 0, Sends: []api.Out{b, c}},
		{State: 2, Class: 15, Next: 7},
		{State: 7, Class: 0, Next: 7, Sends: []api.Out{c, c, a}},
	}
}

// checked holds what Check answers against an error's number.
func checked(t *testing.T, rules []api.Rule, want api.Errno) {
	t.Helper()
	if got := table.Check(rules); got != want {
		t.Errorf("Check(%v): %d, not %d", rules, got, want)
	}
}

// stepped: Step answers just that.
func stepped(t *testing.T, rules []api.Rule, state, class, next int, sends ...api.Out) {
	t.Helper()
	if got, l := table.Step(rules, state, class); got != next || !slices.Equal(l, sends) {
		t.Errorf("Step(%d, %d): %d, %v, not %d, %v", state, class, got, l, next, sends)
	}
}

// walked: Walk answers just that.
func walked(t *testing.T, rules []api.Rule, state int, classes []int, end int, sends ...api.Out) {
	t.Helper()
	if got, l := table.Walk(rules, state, classes); got != end || !slices.Equal(l, sends) {
		t.Errorf("Walk(%d, %v): %d, %v, not %d, %v", state, classes, got, l, end, sends)
	}
}

// sameRules tells whether all of both is the same.
func sameRules(x, y []api.Rule) bool {
	return slices.EqualFunc(x, y, func(r, s api.Rule) bool {
		return r.State == s.State && r.Class == s.Class && r.Next == s.Next && slices.Equal(r.Sends, s.Sends)
	})
}

// outside are numbers that are not 0 to end - 1.
func outside(end int) []int {
	return []int{math.MinInt, -end, -2, -1, end, end + 1, 2 * end, 1 << 32, math.MaxInt}
}

// The chapter's example.
func TestExample(t *testing.T) {
	rules := []api.Rule{{State: 0, Class: 1, Next: 2}}
	stepped(t, rules, 0, 1, 2)
	stepped(t, rules, 1, 1, 1)
}

// P7.1: rules that may be, the edges of each number among them.
func TestRulesThatMayBe(t *testing.T) {
	checked(t, nil, api.OK)
	checked(t, []api.Rule{}, api.OK)
	checked(t, []api.Rule{{}}, api.OK)
	checked(t, some(), api.OK)
	last := api.Out{Class: api.MaxClass - 1, Delay: 1 << 20, Add: api.MaxBody - 1}
	checked(t, []api.Rule{{State: api.MaxState - 1, Class: api.MaxClass - 1, Next: api.MaxState - 1, Sends: []api.Out{last, {}, last}}}, api.OK)
	checked(t, []api.Rule{{Sends: []api.Out{a, a, a}}}, api.OK)
}

// P7.1: a number of a rule that may not be, in the first rule or the last.
func TestNumbersOfRules(t *testing.T) {
	wrong := func(r api.Rule) {
		t.Helper()
		checked(t, []api.Rule{r}, api.ErrRule)
		checked(t, append(some(), r), api.ErrRule)
		checked(t, append([]api.Rule{r}, some()...), api.ErrRule)
	}
	for _, n := range outside(api.MaxState) {
		wrong(api.Rule{State: n, Class: 9, Next: 3})
		wrong(api.Rule{State: 5, Class: 9, Next: n})
	}
	for _, n := range outside(api.MaxClass) {
		wrong(api.Rule{State: 5, Class: n, Next: 3})
	}
}

// P7.1: a send that may not be, at each place.
func TestNumbersOfSends(t *testing.T) {
	wrong := func(o api.Out) {
		t.Helper()
		for _, sends := range [][]api.Out{{o}, {o, a, b}, {a, o, b}, {a, b, o}} {
			r := api.Rule{State: 5, Class: 9, Sends: sends}
			checked(t, []api.Rule{r}, api.ErrRule)
			checked(t, append(some(), r), api.ErrRule)
			checked(t, append([]api.Rule{r}, some()...), api.ErrRule)
		}
	}
	for _, n := range outside(api.MaxClass) {
		wrong(api.Out{Class: n, Delay: 1, Add: 1})
	}
	for _, n := range outside(1<<20 + 1) {
		wrong(api.Out{Class: 1, Delay: n, Add: 1})
	}
	for _, n := range outside(api.MaxBody) {
		wrong(api.Out{Class: 1, Delay: 1, Add: n})
	}
}

// P7.1: at most MaxSends of one rule; each rule has its own.
func TestManySends(t *testing.T) {
	full := slices.Repeat([]api.Out{a}, api.MaxSends)
	checked(t, []api.Rule{{Class: 1, Sends: full}, {Class: 2, Sends: full}}, api.OK)
	for _, n := range []int{api.MaxSends + 1, api.MaxSends + 2, 200} {
		many := slices.Repeat([]api.Out{a}, n)
		checked(t, []api.Rule{{Class: 1, Sends: many}}, api.ErrRule)
		checked(t, []api.Rule{{Class: 1, Sends: full}, {Class: 2, Sends: many}}, api.ErrRule)
	}
}

// many are n rules of which no two are for one thing.
func many(n int) []api.Rule {
	rules := make([]api.Rule, n)
	for i := range rules {
		rules[i] = api.Rule{State: i % api.MaxState, Class: i / api.MaxState, Next: i % 3}
	}
	return rules
}

// P7.1: at most MaxRules.
func TestManyRules(t *testing.T) {
	for n := range api.MaxState * api.MaxClass {
		want := api.OK
		if n > api.MaxRules {
			want = api.ErrRule
		}
		checked(t, many(n), want)
	}
}

// P7.1: two rules for one thing, wherever they stand and whatever else they tell; one of the two numbers alone may be the same.
func TestTwice(t *testing.T) {
	for n := 2; n <= api.MaxRules; n++ {
		for i := range n - 1 {
			rules := many(n)
			rules[n-1].State, rules[n-1].Class = rules[i].State, rules[i].Class
			rules[n-1].Next, rules[n-1].Sends = 6, []api.Out{b}
			checked(t, rules, api.ErrRule)
			slices.Reverse(rules)
			checked(t, rules, api.ErrRule)
		}
	}
	checked(t, []api.Rule{{State: 1, Class: 1}, {State: 1, Class: 2}, {State: 2, Class: 1}, {State: 2, Class: 2}}, api.OK)
	checked(t, []api.Rule{{State: 1, Class: 0}, {State: 0, Class: 1}}, api.OK)
	checked(t, []api.Rule{{State: 3, Class: 3}, {State: 3, Class: 3}}, api.ErrRule)
}

// P7.2: the first of each State and Class, -1 where there is none.
func TestFind(t *testing.T) {
	rules := some()
	for state := -1; state <= api.MaxState; state++ {
		for class := -1; class <= api.MaxClass; class++ {
			want := -1
			for i, r := range slices.Backward(rules) {
				if r.State == state && r.Class == class {
					want = i
				}
			}
			if got := table.Find(rules, state, class); got != want {
				t.Errorf("Find(%d, %d): %d, not %d", state, class, got, want)
			}
		}
	}
	for _, n := range []int{math.MinInt, math.MaxInt, 0, 1} {
		if got := table.Find(nil, n, n); got != -1 {
			t.Errorf("Find without rules: %d", got)
		}
		if got := table.Find(rules, n, math.MinInt); got != -1 {
			t.Errorf("Find(%d, MinInt): %d", n, got)
		}
	}
}

// P7.2: the first of several, and rules that Check would refuse are rules.
func TestFindOfAnyRules(t *testing.T) {
	rules := []api.Rule{
		{State: 1, Class: 1, Next: 3, Sends: []api.Out{a}},
		{State: -5, Class: 99, Next: -7, Sends: slices.Repeat([]api.Out{{Class: -1, Delay: -2, Add: -3}}, 5)},
		{State: 1, Class: 1, Next: 4, Sends: []api.Out{b}},
		{State: -5, Class: 99, Next: 1},
	}
	if got := table.Find(rules, 1, 1); got != 0 {
		t.Errorf("Find(1, 1): %d", got)
	}
	if got := table.Find(rules, -5, 99); got != 1 {
		t.Errorf("Find(-5, 99): %d", got)
	}
	stepped(t, rules, 1, 1, 3, a)
	stepped(t, rules, -5, 99, -7, rules[1].Sends...)
}

// P7.2: Step goes by the rule that Find tells, and stays, and sends nothing, where there is none.
func TestStep(t *testing.T) {
	rules := some()
	for state := -2; state <= api.MaxState+1; state++ {
		for class := -2; class <= api.MaxClass+1; class++ {
			if at := table.Find(rules, state, class); at >= 0 {
				stepped(t, rules, state, class, rules[at].Next, rules[at].Sends...)
			} else {
				stepped(t, rules, state, class, state)
			}
		}
	}
	stepped(t, rules, 0, 1, 2, a)
	stepped(t, rules, 2, 1, 0, b, c)
	stepped(t, rules, 7, 0, 7, c, c, a)
	for _, n := range []int{math.MinInt, math.MaxInt} {
		stepped(t, rules, n, 1, n)
		stepped(t, rules, 2, n, 2)
		stepped(t, nil, n, n, n)
	}
}

// P7.3: each part of the message.
func TestSent(t *testing.T) {
	for _, x := range []struct {
		from, seq, now, body int
		o                    api.Out
		want                 api.Msg
	}{
		{4, 7, 10, 5, api.Out{Class: 2, Delay: 3, Add: 999}, api.Msg{Key: api.Key{T: 13, From: 4, Seq: 7}, To: -1, Class: 2, Body: 4}},
		{0, 0, 0, 0, api.Out{}, api.Msg{To: -1}},
		{7, 1, 5, 1, a, api.Msg{Key: api.Key{T: 8, From: 7, Seq: 1}, To: -1, Class: 2, Body: 2}},
		{1, 2, 5, 500, api.Out{Class: 3, Add: 499}, api.Msg{Key: api.Key{T: 5, From: 1, Seq: 2}, To: -1, Class: 3, Body: 999}},
		{1, 2, 5, 500, api.Out{Class: 3, Add: 500}, api.Msg{Key: api.Key{T: 5, From: 1, Seq: 2}, To: -1, Class: 3}},
		{-3, -4, 5, 0, api.Out{Class: -9, Delay: 1}, api.Msg{Key: api.Key{T: 6, From: -3, Seq: -4}, To: -1, Class: -9}},
		{math.MaxInt, math.MinInt, 5, 0, api.Out{Class: math.MaxInt}, api.Msg{Key: api.Key{T: 5, From: math.MaxInt, Seq: math.MinInt}, To: -1, Class: math.MaxInt}},
	} {
		if got := table.Sent(x.from, x.seq, x.now, x.body, x.o); got != x.want {
			t.Errorf("Sent(%d, %d, %d, %d, %v): %v, not %v", x.from, x.seq, x.now, x.body, x.o, got, x.want)
		}
	}
}

// P7.3: the time is vtime.Add's, at whatever numbers.
func TestTimeOfSent(t *testing.T) {
	times := []int{math.MinInt, -1, 0, 1, 5, api.MaxTime - 1, api.MaxTime, api.MaxTime + 1, api.Inf, math.MaxInt}
	for _, now := range times {
		for _, delay := range append(times, 1<<20) {
			got := table.Sent(1, 2, now, 3, api.Out{Delay: delay}).Key.T
			if want := vtime.Add(now, delay); got != want {
				t.Errorf("now %d, Delay %d: %d, not %d", now, delay, got, want)
			}
		}
	}
	if got := table.Sent(0, 0, api.MaxTime, 0, api.Out{Delay: 1}).Key.T; got != api.Inf {
		t.Errorf("behind MaxTime: %d", got)
	}
	if got := table.Sent(0, 0, api.MaxTime-1, 0, api.Out{Delay: 1}).Key.T; got != api.MaxTime {
		t.Errorf("MaxTime: %d", got)
	}
}

// P7.3: bodies are 0 to MaxBody - 1, at whatever numbers.
func TestBodyOfSent(t *testing.T) {
	for _, x := range []struct{ body, add, want int }{
		{0, 0, 0}, {1, 2, 3}, {999, 0, 999}, {999, 1, 0}, {999, 999, 998}, {0, 999, 999},
		{-1, 0, 999}, {-1, 1, 0}, {-1, -3, 996}, {-999, 0, 1}, {-1000, 0, 0}, {-1001, 0, 999}, {-2000, 999, 999},
		{1000, 0, 0}, {1001, 5, 6}, {123456, 0, 456}, {5, 1000, 5}, {5, -5, 0}, {5, -6, 999}, {0, -1000, 0}, {0, 2001, 1},
		// MaxInt ends on 807, MinInt is 1 farther from 0 on the other side.
		{math.MaxInt, 0, 807}, {math.MaxInt, 999, 806}, {math.MaxInt, math.MaxInt, 614},
		{math.MinInt, 0, 192}, {math.MinInt, 999, 191}, {math.MinInt, math.MinInt, 384}, {math.MaxInt, math.MinInt, 999},
	} {
		if got := table.Sent(1, 2, 3, x.body, api.Out{Add: x.add}).Body; got != x.want {
			t.Errorf("body %d, Add %d: %d, not %d", x.body, x.add, got, x.want)
		}
	}
}

// P7.4: one behind the other.
func TestWalk(t *testing.T) {
	rules := some()
	walked(t, rules, 0, nil, 0)
	walked(t, rules, 99, []int{}, 99)
	walked(t, rules, 0, []int{1}, 2, a)
	walked(t, rules, 0, []int{1, 1}, 0, a, b, c)
	walked(t, rules, 0, []int{1, 5, 1, 1}, 2, a, b, c, a)
	walked(t, rules, 0, []int{1, 15, 0, 1, 0}, 7, a, c, c, a, c, c, a)
	walked(t, rules, 5, []int{0, 1, 2, -1, 16, math.MinInt, math.MaxInt}, 5)
	walked(t, nil, -3, []int{0, 1}, -3)
}

// numbers tells numbers below n, the same ones for the same seed.
func numbers(seed uint32) func(n int) int {
	return func(n int) int {
		seed = seed*1664525 + 1013904223
		return int(seed>>8) % n
	}
}

// drawn are some rules by chance, for few states and classes, so that many are found.
func drawn(next func(int) int) []api.Rule {
	rules := make([]api.Rule, next(12))
	for i := range rules {
		rules[i] = api.Rule{State: next(3), Class: next(3), Next: next(3)}
		for range next(api.MaxSends + 1) {
			rules[i].Sends = append(rules[i].Sends, api.Out{Class: next(16), Delay: next(9), Add: next(1000)})
		}
	}
	return rules
}

// P7.4, with P7.2: a walk is its steps, for many rules; and wherever it is parted, its parts.
func TestWalkIsSteps(t *testing.T) {
	next := numbers(7)
	for range 300 {
		rules, classes := drawn(next), make([]int, next(20))
		for i := range classes {
			classes[i] = next(4)
		}
		start := next(4)
		state, all := start, []api.Out(nil)
		for _, class := range classes {
			for _, r := range rules {
				if r.State == state && r.Class == class {
					state, all = r.Next, append(all, r.Sends...)
					break
				}
			}
		}
		walked(t, rules, start, classes, state, all...)
		cut := next(len(classes) + 1)
		half, first := table.Walk(rules, start, classes[:cut])
		end, second := table.Walk(rules, half, classes[cut:])
		if end != state || !slices.Equal(append(first, second...), all) {
			t.Errorf("parted at %d: %d, not %d", cut, end, state)
		}
	}
}

// P7.4: as many classes as come.
func TestLongWalk(t *testing.T) {
	end, all := table.Walk(some(), 0, slices.Repeat([]int{1}, 500))
	if want := slices.Repeat([]api.Out{a, b, c}, 250); end != 0 || !slices.Equal(all, want) {
		t.Errorf("%d, %d sends, not %d", end, len(all), len(want))
	}
}

// spoilt overwrites a list and its spare room.
func spoilt(l []api.Out) {
	l = l[:cap(l)]
	for i := range l {
		l[i] = api.Out{Class: -77, Delay: -77, Add: -77}
	}
}

// R3: what is handed in is not changed, and an answer shares nothing with it, nor with another answer.
func TestMemory(t *testing.T) {
	room := append(some(), api.Rule{State: 6, Class: 6, Next: 6})
	for i := range room {
		room[i].Sends = append(make([]api.Out, 0, 8), room[i].Sends...)
	}
	rules, want := room[:4], append(some(), api.Rule{State: 6, Class: 6, Next: 6})
	classes := []int{1, 1, 1, 15, 0, 9}
	held := func(what string) {
		t.Helper()
		if !sameRules(room, want) || !slices.Equal(classes, []int{1, 1, 1, 15, 0, 9}) {
			t.Fatalf("%s: the rules are %v, the classes %v", what, room, classes)
		}
		for _, r := range room {
			if slices.ContainsFunc(r.Sends[len(r.Sends):cap(r.Sends)], func(o api.Out) bool { return o != api.Out{} }) {
				t.Fatalf("%s: behind the sends stands %v", what, r.Sends[:cap(r.Sends)])
			}
		}
	}
	checked(t, rules, api.OK)
	held("Check")
	for _, r := range want[:4] {
		_, first := table.Step(rules, r.State, r.Class)
		_, second := table.Step(rules, r.State, r.Class)
		spoilt(first)
		if !slices.Equal(second, r.Sends) {
			t.Errorf("two answers of Step share: %v", second)
		}
		spoilt(second)
		held("Step")
		_, one := table.Walk(rules, r.State, []int{r.Class})
		spoilt(one)
		held("Walk of one class")
	}
	_, all := table.Walk(rules, 0, classes)
	spoilt(all)
	held("Walk")
	walked(t, rules, 0, classes, 7, a, b, c, a, c, c, a)
}
