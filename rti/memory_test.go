package rti_test

import (
	"slices"
	"testing"

	"paceline/api"
	"paceline/rti"
)

// P20.1, R3: parents are neither changed nor kept, what lies behind their length neither.
func TestParentsAreNotKept(t *testing.T) {
	given := []int{-1, 0, 0, 77, 77}
	r, e := rti.New(given[:3])
	done(t, e, r.Join(0), r.Join(1), r.Publish(0, 2, true), r.Subscribe(1, 0, true))
	if !slices.Equal(given, []int{-1, 0, 0, 77, 77}) {
		t.Error(given)
	}
	for i := range given {
		given[i] = -1
	}
	tells(t, r, 0, 2, 5)
	waits(t, r, 1, 0, message(0, 0, 0, 1, 2, 5))
	if r.Rows()[0][2] != "0" {
		t.Error(r.Rows()[0])
	}
}

// spoilt overwrites all rows, with their spare room.
func spoilt(rows [][]string) {
	for _, row := range rows {
		row = row[:cap(row)]
		for i := range row {
			row[i] = "spoilt"
		}
	}
	rows = rows[:cap(rows)]
	for i := range rows {
		rows[i] = []string{"spoilt"}
	}
}

// P20.9, R3: what is told of all of it is the caller's own; what is handed in to make one stays his.
func TestRowsAreNewMemory(t *testing.T) {
	given := rowsOf(rich)
	room := append(slices.Clone(given), []string{"77"})[:len(given)]
	r := from(t, room)
	if !slices.EqualFunc(room, rowsOf(rich), slices.Equal) || room[:len(given)+1][len(given)][0] != "77" {
		t.Error("changed", room)
	}
	spoilt(room)
	for range 3 {
		if got := all(r); got != rich {
			t.Fatalf("not as ahead:\n%s", got)
		}
		spoilt(r.Rows())
	}
	s := from(t, r.Rows())
	done(t, s.Resign(0), s.Resign(1), s.Resign(4), s.Resign(7))
	if all(r) != rich {
		t.Error("two have something in common")
	}
	done(t, s.Begin())
	rows, e := s.End()
	done(t, e)
	was := all(s)
	spoilt(rows)
	if all(s) != was {
		t.Error("what End told is kept")
	}
}

// R3: no two lists of one answer share any.
func TestRowsShareNothing(t *testing.T) {
	rows := from(t, rowsOf(rich)).Rows()
	for i := range rows {
		was := slices.Clone(rows)
		for j := range was {
			was[j] = slices.Clone(rows[j])
		}
		for j, row := 0, rows[i][:cap(rows[i])]; j < len(row); j++ {
			row[j] = "spoilt"
		}
		for j := range rows {
			if j != i && !slices.Equal(rows[j], was[j]) {
				t.Errorf("row %d shares with row %d", i, j)
			}
		}
	}
}

// P20.7, R3: what comes is the caller's own.
func TestGivenIsNewMemory(t *testing.T) {
	r, s := pair(t), pair(t)
	ruin := message(-77, -77, -77, -77, -77, -77)
	// Both are looked at; what r gives is overwritten, and s is none the wiser.
	look := func() {
		t.Helper()
		g, e := r.Look(1)
		h, f := s.Look(1)
		if !(reply{e: e, given: g}).same(reply{e: f, given: h}) {
			t.Fatalf("%v, %v", g, h)
		}
		for _, l := range [][]api.Msg{g.Plain, g.Timed} {
			l = l[:cap(l)]
			for i := range l {
				l[i] = ruin
			}
		}
		if all(r) != all(s) {
			t.Fatalf("\n%s and\n%s", all(r), all(s))
		}
	}
	for i := range 40 {
		for _, x := range []*rti.Rti{r, s} {
			tells(t, x, 0, 1, i)
			sends(t, x, 0, 1, i, 2+i, 3*i)
			sends(t, x, 0, 1, i, 2+i, 3*i+1)
			sends(t, x, 0, 1, i, 9+i, 3*i+2)
			if i%3 == 0 {
				done(t, x.Ask(0, tar, i), x.Ask(1, 1+i%2, i))
				granted(t, x, 0, i)
			}
		}
		look()
		g, _ := r.Look(1)
		s.Look(1)
		// One list of an answer does not reach into the other one.
		_ = append(g.Plain, ruin)
		if all(r) != all(s) {
			t.Fatal("a list reaches into another one")
		}
	}
}

// R3: two have nothing in common.
func TestTwo(t *testing.T) {
	parents := []int{-1, 0}
	r, e := rti.New(parents)
	s, f := rti.New(parents)
	done(t, e, f, r.Join(0), r.Publish(0, 1, true), r.Regulate(0, 5))
	sends(t, r, 0, 1, 5, 9, 0)
	if s.Time(0) != -1 || s.Join(0) != api.OK || s.Unregulate(0) != api.ErrNotReg {
		t.Error("two have something in common")
	}
	sendFails(t, s, api.ErrPublish, 0, 1, 5, 9, true)
	done(t, r.Begin(), s.Publish(0, 1, true))
	sends(t, s, 0, 1, 5, 9, 0)
}
