package lbts_test

import (
	"math"
	"slices"
	"testing"

	"paceline/api"
	"paceline/lbts"
)

type member = lbts.Member

const maxLook = 1 << 20

var (
	// The numbers at which a time may turn into another one.
	edges = []int{math.MinInt, -api.Inf, -1, 0, 1, 2, 7, api.MaxTime - 1, api.MaxTime, api.MaxTime + 1, api.Inf - 1, api.Inf, api.Inf + 1, math.MaxInt}
	// The same of lookaheads, of Kinds.
	looks = []int{math.MinInt, -1, 0, 1, 2, 5, maxLook - 1, maxLook, maxLook + 1, api.Inf, math.MaxInt}
	kinds = []int{math.MinInt, -1, 0, 1, 2, 3, 4, 5, 1<<32 + 1, math.MaxInt}
)

// free is who is regulating alone.
func free(kind, time, look, ask, first int) member {
	return member{Regulating: true, Kind: kind, Time: time, Look: look, Ask: ask, First: first}
}

// bound is who is both constrained and regulating.
func bound(kind, time, look, ask, first int) member {
	m := free(kind, time, look, ask, first)
	m.Constrained = true
	return m
}

// outputs: of l these are told.
func outputs(t *testing.T, l []member, want ...int) {
	t.Helper()
	if told := lbts.Outputs(l); !slices.Equal(told, want) {
		t.Errorf("Outputs(%v): %v, not %v", l, told, want)
	}
}

// lbtsIs: of i in l this is told.
func lbtsIs(t *testing.T, l []member, i, want int) {
	t.Helper()
	if told := lbts.Lbts(l, i); told != want {
		t.Errorf("Lbts(%v, %d): %d, not %d", l, i, told, want)
	}
}

// The chapter's examples.
func TestExamples(t *testing.T) {
	lbtsIs(t, []member{{}, free(0, 5, 2, 0, 0)}, 0, 7)
	l := []member{bound(2, 0, 1, 100, api.Inf), bound(2, 0, 1, 100, 9)}
	lbtsIs(t, l, 1, 11)
	lbtsIs(t, l, 0, 10)
}

// P18.1: the least of the others' outputs, never the own one.
func TestLbtsIsOfTheOthers(t *testing.T) {
	l := []member{free(0, 5, 2, 0, 0), free(0, 9, 2, 0, 0), {Constrained: true}, free(0, 6, 2, 0, 0)}
	for i, want := range []int{8, 7, 7, 7} {
		lbtsIs(t, l, i, want)
	}
	// Two of one output: each has the other one's.
	l = []member{free(0, 5, 2, 0, 0), free(0, 5, 2, 0, 0)}
	lbtsIs(t, l, 0, 7)
	lbtsIs(t, l, 1, 7)
}

// P18.1: who is not regulating does not count, whatever it asks for.
func TestLbtsIsOfTheRegulating(t *testing.T) {
	for _, kind := range kinds {
		idle := member{Constrained: true, Kind: kind, Look: 1}
		lbtsIs(t, []member{free(0, 5, 2, 0, 0), idle, {Kind: kind}}, 1, 7)
		lbtsIs(t, []member{free(0, 5, 2, 0, 0), idle, {Kind: kind}}, 0, api.Inf)
	}
}

// P18.1: of an i that there is not all are others.
func TestLbtsOfNobody(t *testing.T) {
	l := []member{free(0, 9, 2, 0, 0), free(0, 5, 2, 0, 0)}
	for _, i := range []int{math.MinInt, -2, -1, 2, 3, api.MaxFeds, 1 << 32, math.MaxInt} {
		lbtsIs(t, l, i, 7)
		lbtsIs(t, l[:1], i, 11)
		lbtsIs(t, nil, i, api.Inf)
		lbtsIs(t, []member{{Constrained: true}}, i, api.Inf)
	}
}

// P18.1: Inf, if no other one is regulating.
func TestLbtsOfNone(t *testing.T) {
	lbtsIs(t, nil, 0, api.Inf)
	lbtsIs(t, []member{}, 0, api.Inf)
	lbtsIs(t, []member{free(0, 5, 2, 0, 0)}, 0, api.Inf)
	lbtsIs(t, []member{{}, {Constrained: true}}, 1, api.Inf)
}

// P18.2: one for each member.
func TestOutputsOfNone(t *testing.T) {
	outputs(t, nil)
	outputs(t, []member{})
	outputs(t, []member{{}}, api.Inf)
}

// P18.2: Inf of who is not regulating, whatever else it is.
func TestOutputOfWhoIsNotRegulating(t *testing.T) {
	for _, kind := range kinds {
		for _, constrained := range []bool{false, true} {
			outputs(t, []member{{Constrained: constrained, Time: 3, Look: 2, Kind: kind, Ask: 4, First: 5}}, api.Inf)
		}
	}
}

// P18.2: the base of each Kind, of who is alone and of who has another one beside it.
func TestBase(t *testing.T) {
	other := free(0, 11, 1, 0, 0)
	for _, x := range []struct {
		m           member
		alone, both int
	}{
		// Of Kind 0 the time, whatever else there is.
		{free(0, 5, 2, 20, 15), 7, 7},
		{bound(0, 5, 2, 20, 15), 7, 7},
		{bound(0, 5, 2, 3, 1), 7, 7},
		// Of Kind 1 what it asked for, whatever else there is: one that lies behind the time, too.
		{free(1, 5, 2, 20, 15), 22, 22},
		{bound(1, 5, 2, 20, 15), 22, 22},
		{bound(1, 5, 2, 3, 1), 5, 5},
		// Of Kinds 2 and 3 likewise, if it is not constrained.
		{free(2, 5, 2, 20, 15), 22, 22},
		{free(3, 5, 2, 20, 15), 22, 22},
		{free(2, 5, 2, 3, 1), 5, 5},
		{free(3, 5, 2, 3, 1), 5, 5},
		// Else the least of what it asked for, of the first message, of what may come from the other one.
		{bound(2, 5, 2, 20, 30), 22, 14},
		{bound(3, 5, 2, 20, 30), 22, 14},
		{bound(2, 5, 2, 20, 15), 17, 14},
		{bound(3, 5, 2, 20, 15), 17, 14},
		{bound(2, 5, 2, 20, 10), 12, 12},
		{bound(3, 5, 2, 20, 10), 12, 12},
		{bound(2, 5, 2, 9, 10), 11, 11},
		{bound(3, 5, 2, 9, 10), 11, 11},
		// But not below the time.
		{bound(2, 13, 2, 20, 30), 22, 15},
		{bound(3, 13, 2, 20, 30), 22, 15},
		{bound(2, 16, 2, 20, 15), 18, 18},
		{bound(3, 16, 2, 20, 15), 18, 18},
		{bound(2, 5, 2, 3, 1), 7, 7},
		{bound(3, 5, 2, 3, 1), 7, 7},
	} {
		outputs(t, []member{x.m}, x.alone)
		outputs(t, []member{x.m, other}, x.both, 12)
		outputs(t, []member{other, x.m}, 12, x.both)
		outputs(t, []member{x.m, {Constrained: true, Look: 1}}, x.alone, api.Inf)
	}
}

// Other Kinds count as 0.
func TestOtherKinds(t *testing.T) {
	for _, kind := range kinds {
		if kind >= 1 && kind <= 3 {
			continue
		}
		outputs(t, []member{free(kind, 5, 2, 20, 3), bound(kind, 9, 2, 20, 3)}, 7, 11)
	}
}

// All times count as vtime.Add says.
func TestTimesCount(t *testing.T) {
	for _, x := range []struct{ time, want int }{
		{math.MinInt, 2}, {-api.Inf, 2}, {-1, 2}, {0, 2}, {1, 3}, {api.MaxTime - 3, api.MaxTime - 1}, {api.MaxTime - 2, api.MaxTime},
		{api.MaxTime - 1, api.Inf}, {api.MaxTime, api.Inf}, {api.MaxTime + 1, api.Inf}, {api.Inf - 1, api.Inf}, {api.Inf, api.Inf}, {api.Inf + 1, api.Inf}, {math.MaxInt, api.Inf},
	} {
		for _, m := range []member{
			free(0, x.time, 2, 9, 9), bound(0, x.time, 2, 9, 9),
			free(1, 9, 2, x.time, 9), bound(1, 9, 2, x.time, 9),
			free(2, 9, 2, x.time, 9), free(3, 9, 2, x.time, 9),
			bound(2, 0, 2, x.time, api.Inf), bound(3, 0, 2, x.time, api.Inf),
			bound(2, 0, 2, api.Inf, x.time), bound(3, 0, 2, api.Inf, x.time),
			bound(2, x.time, 2, 0, 0), bound(3, x.time, 2, -1, -1),
		} {
			outputs(t, []member{m}, x.want)
			lbtsIs(t, []member{m, {}}, 1, x.want)
		}
	}
}

// A lookahead counts as 1, if it is below, as 2^20, if it is above.
func TestLookaheadsCount(t *testing.T) {
	for _, look := range looks {
		want := look
		if look < 1 {
			want = 1
		}
		if look > maxLook {
			want = maxLook
		}
		outputs(t, []member{free(0, 5, look, 0, 0)}, 5+want)
		outputs(t, []member{bound(1, 0, look, 5, 0)}, 5+want)
		outputs(t, []member{bound(2, 0, look, 9, 5)}, 5+want)
	}
}

// P18.2: a time that is late with a lookahead ends at MaxTime.
func TestOutputsEndAtMaxTime(t *testing.T) {
	outputs(t, []member{free(0, api.MaxTime-maxLook, maxLook, 0, 0)}, api.MaxTime)
	outputs(t, []member{free(0, api.MaxTime-maxLook+1, maxLook, 0, 0)}, api.Inf)
	// What hangs on such an output ends likewise.
	late := bound(2, 0, 2, api.Inf, api.Inf)
	outputs(t, []member{late, free(0, api.MaxTime-3, 1, 0, 0)}, api.MaxTime, api.MaxTime-2)
	outputs(t, []member{late, free(0, api.MaxTime-2, 1, 0, 0)}, api.Inf, api.MaxTime-1)
	outputs(t, []member{late, free(0, api.MaxTime, 1, 0, 0)}, api.Inf, api.Inf)
}

// P18.2: who hang on one another come to the greatest times that may be, not to what they begin at; and at once, however far that is.
func TestWhoHangOnOneAnother(t *testing.T) {
	for _, kind := range []int{2, 3} {
		outputs(t, []member{bound(kind, 0, 1, 100, api.Inf), bound(kind, 0, 1, 100, api.Inf)}, 101, 101)
		outputs(t, []member{bound(kind, 0, 1, 100, 9), bound(kind, 0, 1, 100, api.Inf)}, 10, 11)
		outputs(t, []member{bound(kind, 0, 1, 100, 9), bound(kind, 0, 1, 10, api.Inf)}, 10, 11)
		outputs(t, []member{bound(kind, 0, 1, 100, 9), bound(kind, 0, 1, 4, api.Inf)}, 6, 5)
		outputs(t, []member{bound(kind, 0, 3, 100, 50), bound(kind, 20, 5, 100, 60), bound(kind, 0, 7, 100, 40)}, 50, 52, 47)
		// Of all that may hang on one another nobody has an end.
		outputs(t, slices.Repeat([]member{bound(kind, 0, 1, api.Inf, api.Inf)}, 3), api.Inf, api.Inf, api.Inf)
		far := bound(kind, 0, 1, api.MaxTime, api.MaxTime-9)
		outputs(t, []member{far, bound(kind, 0, 1, api.MaxTime, api.Inf), bound(kind, 0, 1, api.Inf, api.Inf)}, api.MaxTime-8, api.MaxTime-7, api.MaxTime-7)
	}
	// One that is held where it stands holds those that wait.
	outputs(t, []member{bound(2, 0, 1, 100, api.Inf), bound(0, 3, 2, 100, 1), bound(3, 4, 10, 100, 90)}, 6, 5, 15)
	// Who asks for a time does not hang on others, though it is constrained.
	outputs(t, []member{bound(1, 0, 1, 30, 2), bound(2, 0, 4, 100, 90)}, 31, 35)
}

// P18.2: whoever stands where, each comes to the same.
func TestPlaces(t *testing.T) {
	l := []member{bound(2, 0, 1, 100, api.Inf), free(0, 8, 2, 0, 0), {Constrained: true}, bound(3, 12, 5, 40, 20)}
	want := []int{11, 10, api.Inf, 17}
	for range 24 {
		for i := range 3 {
			l[i], l[i+1] = l[i+1], l[i]
			want[i], want[i+1] = want[i+1], want[i]
			outputs(t, l, want...)
		}
	}
}

// R3: what is handed in is not changed, what lies behind its length neither; an answer is the caller's own, with its spare room.
func TestMemory(t *testing.T) {
	all := []member{bound(2, 0, 1, 100, api.Inf), free(0, -8, 0, 0, 0), bound(3, 12, 5, 40, 20), free(9, 1, 1, 1, 1)}
	given := slices.Clone(all)
	told := lbts.Outputs(given[:2])
	for i := range given {
		lbts.Lbts(given[:2], i)
	}
	if !slices.Equal(given, all) {
		t.Errorf("%v, not %v", given, all)
	}
	again := lbts.Outputs(given[:2])
	for i := range told[:cap(told)] {
		told[:cap(told)][i] = -77
	}
	if !slices.Equal(again, []int{2, 1}) || !slices.Equal(given, all) {
		t.Errorf("%v, %v", again, given)
	}
	outputs(t, given[:2], 2, 1)
}
