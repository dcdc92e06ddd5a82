package fed_test

import (
	"slices"
	"testing"

	"paceline/api"
	"paceline/fed"
)

// same tells whether all of both is the same.
func same(v, w api.World) bool {
	return v.End == w.End && slices.Equal(v.Parents, w.Parents) && slices.EqualFunc(v.Feds, w.Feds, func(a, b api.Fed) bool {
		return a.Kind == b.Kind && a.Look == b.Look && a.Start == b.Start &&
			slices.Equal(a.Pubs, b.Pubs) && slices.Equal(a.Subs, b.Subs) && slices.Equal(a.Init, b.Init) &&
			slices.EqualFunc(a.Rules, b.Rules, func(r, s api.Rule) bool {
				return r.State == s.State && r.Class == s.Class && r.Next == s.Next && slices.Equal(r.Sends, s.Sends)
			})
	})
}

// spoilt turns every number of w into another one.
func spoilt(w api.World) {
	for c := range w.Parents {
		w.Parents[c] = 77
	}
	for f := range w.Feds {
		x := &w.Feds[f]
		for _, list := range [][]int{x.Pubs, x.Subs} {
			for i := range list {
				list[i] = 99
			}
		}
		for i := range x.Rules {
			for j := range x.Rules[i].Sends {
				x.Rules[i].Sends[j] = api.Out{Class: 99, Delay: -5, Add: 5555}
			}
			x.Rules[i] = api.Rule{State: 99, Class: 99, Next: 99}
		}
		for i := range x.Init {
			x.Init[i] = api.Out{Class: 99, Delay: 99, Add: 99}
		}
		*x = api.Fed{Kind: 1 - x.Kind}
	}
}

// P17.1, R3: w is neither changed nor kept, what lies behind its lists' lengths neither.
func TestWorldIsNotKept(t *testing.T) {
	for i, w := range worlds(t, 60) {
		given := copied(w)
		given.Feds = append(given.Feds, api.Fed{Kind: 9})[:len(w.Feds)]
		x, y := made(t, given, 2), made(t, w, 2)
		next := numbers(uint64(i))
		for n := range 600 {
			if n == 300 {
				if !same(given, w) || given.Feds[:len(w.Feds)+1][len(w.Feds)].Kind != 9 {
					t.Fatalf("the world was changed: %v", given)
				}
				spoilt(given)
			}
			o := drawn(next, len(w.Feds))
			if a, b := x.Do(o), y.Do(o); a != b {
				t.Fatalf("federation %d: Do(%v): %d, not %d", i, o, a, b)
			}
		}
		if a, b := tells(x), tells(y); !a.same(b) {
			t.Fatalf("federation %d: %v, not %v", i, a, b)
		}
	}
}

// scribbled overwrites l with its spare room.
func scribbled[T any](l []T, with T) {
	l = l[:cap(l)]
	for i := range l {
		l[i] = with
	}
}

// R3: what a call answered is the caller's own, with its spare room.
func TestAnswersAreNewMemory(t *testing.T) {
	ruin := message(-77, -77, -77, -77, -77, -77)
	for i, w := range worlds(t, 60) {
		x, y := made(t, w, 3), made(t, w, 3)
		next := numbers(uint64(i))
		for range 600 {
			o := drawn(next, len(w.Feds))
			if a, b := x.Do(o), y.Do(o); a != b {
				t.Fatalf("federation %d: Do(%v): %d, not %d", i, o, a, b)
			}
			for f := range w.Feds {
				scribbled(x.Out(f), anti(ruin))
				scribbled(x.Log(f), api.Done{Msg: ruin, State: -77})
			}
			if a, b := tells(x), tells(y); !a.same(b) {
				t.Fatalf("federation %d: behind %v: %v, not %v", i, o, a, b)
			}
		}
	}
}

// copy is a told that shares nothing with a.
func (a told) copy() told {
	for i := range a.states {
		a.logs[i], a.outs[i] = slices.Clone(a.logs[i]), slices.Clone(a.outs[i])
	}
	return a
}

// R3: what a call answered does not change by later calls.
func TestAnswersStay(t *testing.T) {
	for i, w := range worlds(t, 60) {
		k := made(t, w, 3)
		next := numbers(uint64(i))
		var answers, copies []told
		for range 40 {
			a := tells(k)
			answers, copies = append(answers, a), append(copies, a.copy())
			for range 20 {
				k.Do(drawn(next, len(w.Feds)))
			}
		}
		if !slices.EqualFunc(answers, copies, told.same) {
			t.Fatalf("federation %d: an answer changed", i)
		}
	}
}

// R3: two kernels have nothing in common, not even of one federation.
func TestKernelsAreTheirOwn(t *testing.T) {
	w := mixed()
	x, y := made(t, w, 2), made(t, w, 2)
	was := tells(y)
	next := numbers(5)
	for range 400 {
		x.Do(drawn(next, len(w.Feds)))
	}
	if is := tells(y); !is.same(was) {
		t.Errorf("the other one has changed: %v, and was %v", is, was)
	}
	does(t, y, of(flush, 0, 0, 2, 2)...)
	does(t, y, fed.Op{Kind: begin}, from(0, 1), from(2, 1))
}
