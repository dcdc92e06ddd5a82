package rti_test

import (
	"math"
	"slices"
	"strconv"
	"strings"
	"testing"

	"paceline/api"
	"paceline/rti"
)

// rowsOf reads a text of lines, of numbers with commas between, as rows.
func rowsOf(text string) [][]string {
	var rows [][]string
	for line := range strings.Lines(text) {
		rows = append(rows, strings.Split(strings.TrimSuffix(line, "\n"), ","))
	}
	return rows
}

// noMember are the rows of a federate that is none, and has sent nothing.
const noMember = "0,0,0,0,0,0,0\n-1\n-1\n-1\n-1\n"

// rich are the rows of one in which all is told of somebody.
const rich = "-1,0,0,1\n" +
	"1,3,2,1,1,9,3\n-1,1,3\n-1,0\n-1,8,4,0,0,3,998,8,4,1,0,3,999\n-1,0,4,2,0,3,5\n" +
	"1,0,0,0,0,0,0\n-1\n-1,1,3\n-1\n-1,5,0,0,1,1,7,6,0,1,1,1,8,0,4,2,1,3,5,1099511627776,0,2,1,3,0,0,0,3,1,3,1\n" +
	"0,0,0,0,0,0,6\n-1\n-1\n-1\n-1\n" +
	noMember +
	"1,7,1,0,3,20,2\n-1,3\n-1\n-1\n-1\n" +
	noMember + noMember +
	"1,0,0,1,2,1099511627776,0\n-1\n-1,3\n-1,8,4,0,7,3,998,8,4,1,7,3,999,1099511627776,0,2,7,3,0\n-1,0,4,2,7,3,5,0,0,3,7,3,1\n"

// made of these rows.
func from(t *testing.T, rows [][]string) *rti.Rti {
	t.Helper()
	r, e := rti.From(rows)
	if e != api.OK || r == nil {
		t.Fatalf("From: %d", e)
	}
	return r
}

// P20.9
func TestRows(t *testing.T) {
	r := made(t, -1, 0, 0, 1)
	done(t, r.Join(2), r.Publish(2, 0, true))
	for i := range 6 {
		sends(t, r, 2, 0, i, i, i)
	}
	done(t, r.Resign(2), r.Join(0), r.Join(1), r.Join(4), r.Join(7))
	done(t, r.Publish(0, 3, true), r.Publish(0, 1, true), r.Publish(4, 3, true), r.Constrain(0), r.Constrain(7))
	goTo(t, r, 0, 3)
	done(t, r.Regulate(0, 2), r.Regulate(4, 8), r.Subscribe(1, 0, true), r.Subscribe(1, 1, true))
	sends(t, r, 0, 1, 7, 5, 0)
	sends(t, r, 0, 1, 8, 6, 1)
	done(t, r.Subscribe(1, 0, false), r.Subscribe(1, 1, false), r.Subscribe(0, 0, true), r.Subscribe(7, 3, true))
	sends(t, r, 4, 3, 998, 8, 0)
	sends(t, r, 4, 3, 999, 8, 1)
	done(t, r.Unregulate(4), r.Subscribe(1, 3, true), r.Subscribe(1, 1, true))
	goTo(t, r, 4, 7)
	done(t, r.Regulate(4, 1))
	tells(t, r, 4, 3, 5)
	sends(t, r, 0, 3, 0, api.MaxTime, 2)
	tells(t, r, 0, 3, 1)
	done(t, r.Ask(0, tar, 9), r.Ask(4, fqr, 20), r.Ask(7, nmr, api.MaxTime))
	if got := all(r); got != rich {
		t.Errorf("\n%snot\n%s", got, rich)
	}
}

// P20.9: what is told of somebody is read, and told again.
func TestFrom(t *testing.T) {
	for _, text := range []string{rich, "-1\n" + strings.Repeat(noMember, 8)} {
		if got := all(from(t, rowsOf(text))); got != text {
			t.Errorf("\n%snot\n%s", got, text)
		}
	}
}

// P20.9: it goes on as what calls came to: all that is read counts.
func TestFromGoesOn(t *testing.T) {
	r := from(t, rowsOf(rich))
	for f, want := range []int{3, 0, -1, -1, 7, -1, -1, 0} {
		if r.Time(f) != want {
			t.Errorf("Time(%d): %d", f, r.Time(f))
		}
	}
	// 0 asks to go to 9, 4 up to 20.
	if r.Bound(0) != 21 || r.Bound(4) != 11 || r.Bound(7) != 11 {
		t.Error(r.Bound(0), r.Bound(4), r.Bound(7))
	}
	refused(t, r, api.ErrNoSave, func() api.Errno { _, e := r.End(); return e })
	refused(t, r, api.ErrPending, r.Begin)
	done(t, r.Retract(4, 1))
	for _, x := range []struct {
		f, at        int
		plain, timed []api.Msg
	}{
		{0, 9, []api.Msg{message(0, 4, 2, 0, 3, 5)}, []api.Msg{message(8, 4, 0, 0, 3, 998)}},
		{4, 20, nil, nil},
		{7, 8, []api.Msg{message(0, 4, 2, 7, 3, 5), message(0, 0, 3, 7, 3, 1)}, []api.Msg{message(8, 4, 0, 7, 3, 998)}},
	} {
		if g, e := r.Look(x.f); e != api.OK || !g.Granted || g.Time != x.at || !slices.Equal(g.Plain, x.plain) || !slices.Equal(g.Timed, x.timed) {
			t.Error(x.f, g, e)
		}
	}
	waits(t, r, 1, 0, message(5, 0, 0, 1, 1, 7), message(6, 0, 1, 1, 1, 8), message(0, 4, 2, 1, 3, 5), message(api.MaxTime, 0, 2, 1, 3, 0), message(0, 0, 3, 1, 3, 1))
	sends(t, r, 0, 1, 5, 11, 3)
	sendFails(t, r, api.ErrEarly, 0, 1, 5, 10, true)
	sendFails(t, r, api.ErrPublish, 0, 0, 5, 11, true)
	sends(t, r, 4, 3, 6, 21, 2)
	waits(t, r, 0, 9)
	waits(t, r, 1, 0, message(11, 0, 3, 1, 1, 5), message(21, 4, 2, 1, 3, 6))
	done(t, r.Join(2), r.Publish(2, 0, true))
	sends(t, r, 2, 0, 1, 5, 6)
}

// P20.9: a save under way is not told.
func TestFromSavesNothing(t *testing.T) {
	r := pair(t)
	done(t, r.Begin())
	s := from(t, r.Rows())
	refused(t, s, api.ErrNoSave, func() api.Errno { _, e := s.End(); return e })
	done(t, s.Join(2), s.Begin())
}

// notFrom: there is none of these rows.
func notFrom(t *testing.T, rows [][]string, why ...any) {
	t.Helper()
	if r, e := rti.From(rows); r != nil || e != api.ErrForm {
		t.Errorf("From, with %v: %d", why, e)
	}
}

// P20.9: of other rows than these, or of fields that are no integers, there is none.
func TestFromForm(t *testing.T) {
	notFrom(t, nil, "none")
	notFrom(t, [][]string{}, "none")
	for i := range rowsOf(rich) {
		notFrom(t, slices.Delete(rowsOf(rich), i, i+1), "without row", i)
		notFrom(t, slices.Insert(rowsOf(rich), i, []string{"-1"}), "one more row", i)
		for _, row := range [][]string{nil, {}, {""}, {"x"}} {
			rows := rowsOf(rich)
			rows[i] = row
			notFrom(t, rows, i, row)
		}
		for j, field := range rowsOf(rich)[i] {
			for _, odd := range []string{"", "x", " " + field, "0" + field, "+" + field, field + ".", field + "\n", "9223372036854775808", "-0"} {
				rows := rowsOf(rich)
				rows[i][j] = odd
				notFrom(t, rows, i, j, odd)
			}
		}
		if i > 0 {
			rows := rowsOf(rich)
			rows[i] = append(rows[i], "99")
			notFrom(t, rows, "one more field in row", i)
		}
	}
	notFrom(t, append(rowsOf(rich), []string{"-1"}), "a row behind")
	notFrom(t, append(rowsOf(rich), rowsOf(noMember)...), "nine federates")
}

// P20.9: fields that may be, and such as may not; each is put into the rows alone.
func TestFromFields(t *testing.T) {
	for _, x := range []struct{ row, field, lo, hi int }{
		{0, 0, -1, -1}, {0, 1, -1, 0}, {0, 2, -1, 1}, {0, 3, -1, 2}, // a tree
		{1, 0, 1, 1}, {1, 1, 0, 9}, {1, 2, 0, maxLook}, {1, 3, 1, 1}, {1, 4, 1, 3}, {1, 5, 3, api.MaxTime}, // 0 has asked for 9
		{6, 0, 1, 1}, {6, 1, 0, api.MaxTime}, {6, 2, 0, maxLook}, {6, 3, 0, 1}, {6, 4, 0, 3}, {6, 5, 0, 0}, // 1 has asked for nothing
		{11, 0, 0, 1}, {11, 1, 0, 0}, {11, 2, 0, 0}, {11, 3, 0, 0}, {11, 4, 0, 0}, {11, 5, 0, 0}, // 2 is no member
		{2, 0, -1, -1}, {2, 1, 0, 2}, {2, 2, 2, 3}, {8, 1, 0, 2}, {8, 2, 2, 3}, {38, 1, 0, 3}, // classes, rising
		{39, 0, -1, -1}, {39, 7, 8, api.MaxTime - 1}, {39, 13, 9, api.MaxTime}, {39, 3, 0, 0}, {39, 9, 1, 1}, {39, 15, 0, 2}, // timed ones: T, Seq
		{39, 4, 7, 7}, {39, 5, 0, 3}, {39, 6, 0, api.MaxBody - 1}, {39, 16, 7, 7}, {39, 17, 0, 3}, {39, 18, 0, api.MaxBody - 1},
		{10, 0, -1, -1}, {10, 1, 0, api.MaxTime}, {10, 3, 0, 3}, {10, 15, 0, 2}, {40, 3, 0, 2}, {40, 9, 0, 3}, // plain ones
		{10, 4, 1, 1}, {10, 5, 0, 3}, {10, 6, 0, api.MaxBody - 1}, {10, 16, 1, 1}, {10, 17, 0, 3}, {10, 18, 0, api.MaxBody - 1},
	} {
		for _, n := range []int{x.lo, (x.lo + x.hi) / 2, x.hi, x.lo - 1, x.hi + 1, math.MinInt, -api.Inf, api.Inf, math.MaxInt} {
			rows := rowsOf(rich)
			rows[x.row][x.field] = strconv.Itoa(n)
			if n < x.lo || n > x.hi {
				notFrom(t, rows, x, n)
				continue
			}
			if got := from(t, rows).Rows(); !slices.EqualFunc(got, rows, slices.Equal) {
				t.Errorf("with %v, %d: %v", x, n, got)
			}
		}
	}
}

// P20.9: nobody may have sent less than what waits tells.
func TestFromSent(t *testing.T) {
	for row, least := range map[int]int{1: 3, 6: 0, 11: 0, 16: 0, 21: 2, 26: 0, 36: 0} {
		for _, n := range []int{math.MinInt, -1, least - 1, least, least + 1, 1000, api.MaxTime} {
			rows := rowsOf(rich)
			rows[row][6] = strconv.Itoa(n)
			if n < least {
				notFrom(t, rows, row, n)
				continue
			}
			if got := from(t, rows).Rows(); !slices.EqualFunc(got, rows, slices.Equal) {
				t.Errorf("%d: %d", row, n)
			}
		}
	}
}

// with has other rows at some places.
func with(changes ...string) [][]string {
	rows := rowsOf(rich)
	for _, change := range changes {
		place, row, _ := strings.Cut(change, ":")
		i, _ := strconv.Atoi(place)
		rows[i] = strings.Split(row, ",")
	}
	return rows
}

// P20.9: what hangs on several fields.
func TestFromTogether(t *testing.T) {
	for _, good := range [][][]string{
		with("6:1,0,0,0,3,0,0"), with("6:1,5,0,0,1,5,0"), with("6:1,1099511627776,0,0,2,1099511627776,0"), // asks for its own time
		with("6:1,0,0,1,0,0,0"),                           // constrained, and nothing timed waits
		with("6:1,0,1048576,0,0,0,0"),                     // regulating
		with("39:-1,8,0,2,7,3,998,8,4,0,7,3,999"),         // of one time by who sent it
		with("39:-1,8,4,0,7,3,998,9,0,0,7,3,999"),         // by times
		with("10:-1,0,0,0,1,1,7,0,0,0,1,1,7"),             // plain ones may be alike
		with("10:-1,5,0,2,1,1,7,4,0,0,1,1,7,0,2,6,1,0,0"), // in any order; of who is no member
		with("2:-1", "3:-1"), with("2:-1,0,1,2,3", "3:-1,0,1,2,3"),
		with("10:-1,0,3,0,1,1,7"), // of who has sent nothing that is timed
	} {
		if got := from(t, good).Rows(); !slices.EqualFunc(got, good, slices.Equal) {
			t.Errorf("%v, not %v", got, good)
		}
	}
	for i, bad := range [][][]string{
		with("6:1,5,0,0,1,4,0"), with("6:1,5,0,0,2,0,0"), with("6:1,5,0,0,3,4,0"), // it has passed
		with("6:1,0,0,0,0,5,0"),                                                                              // up to when, but nothing
		with("9:-1,8,4,0,1,3,998"), with("36:1,0,0,0,2,50,0"), with("4:-1,8,4,0,0,3,998", "1:1,3,2,0,1,9,3"), // timed ones for who is not constrained
		with("39:-1,8,4,1,7,3,999,8,4,0,7,3,998"), with("39:-1,8,4,0,7,3,1,8,0,3,7,3,1"), with("39:-1,9,0,0,7,3,1,8,4,0,7,3,1"), // not in their order
		with("39:-1,8,4,0,7,3,1,8,4,0,7,3,1"), with("39:-1,8,4,0,7,3,1,8,4,0,7,3,2"), // one twice
		with("39:-1,8,4,2,7,3,1"), with("39:-1,8,0,3,7,3,1"), with("39:-1,8,2,6,7,3,1"), with("39:-1,8,3,0,7,3,1"), // none of that number was sent
		with("10:-1,5,0,4,1,1,7"), with("10:-1,5,3,1,1,1,7"), with("10:-1,5,0,-1,1,1,7"),
		with("10:-1,5,8,0,1,1,7"), with("10:-1,5,-1,0,1,1,7"), with("39:-1,8,8,0,7,3,1"), with("39:-1,8,-1,0,7,3,1"), with("39:-1,-1,4,0,7,3,1"), // from nobody, at none
		with("10:-1,5,0,0,2,1,7"), with("39:-1,8,4,0,0,3,1"), // to another one
		with("2:-1,1,1"), with("2:-1,3,1"), with("3:-1,1,1"), with("3:-1,2,1"), with("2:-1,-1,1"), with("3:-1,-1"), // classes that don't rise
		with("2:1,3"), with("3:0"), with("4:8,4,0,0,3,998"), with("5:0"), // no head
		with("12:-1,0"), with("13:-1,0"), with("14:-1,8,4,0,2,3,1"), with("15:-1,0,4,0,2,3,1"), // of who is no member
		with("11:0,1,0,0,0,0,6"), with("11:0,0,1,0,0,0,6"), with("11:0,0,0,1,0,0,6"), with("11:0,0,0,0,1,0,6"), with("11:0,0,0,0,0,1,6"), with("11:0,0,0,0,0,0,-1"), with("11:0,5,0,0,1,5,6"),
		with("10:-1,5,0,0,1,1"), with("10:-1,5"), with("10:-1,5,0,0,1,1,7,5"), with("39:-1,8,4,0,7,3"), with("4:-1,8"), // a piece of one
		with("1:1,3,2,1,1,9"), with("1:1,3,2,1,1,9,3,0"), with("16:0"), with("16:0,0,0,0,0,0"), with("16:0,0,0,0,0,0,0,0"),
		with("0:-1,1,0,1"), with("0:-1,0"), with("0:-2,0,0,1"), with("0:" + strings.Repeat("-1,", 16) + "-1"), with("0:-1,-1,-1"),
	} {
		notFrom(t, bad, i)
	}
}

// P20.9: at most MaxQueue wait of each.
func TestFromFull(t *testing.T) {
	for _, n := range []int{api.MaxQueue - 1, api.MaxQueue, api.MaxQueue + 1, 3 * api.MaxQueue} {
		timed, plain := []string{"-1"}, []string{"-1"}
		for i := range n {
			timed = append(timed, "8", "0", strconv.Itoa(i), "7", "3", "5")
			plain = append(plain, "0", "0", strconv.Itoa(n), "7", "3", "5")
		}
		own := "1:1,3,2,1,1,9," + strconv.Itoa(max(n, 4))
		for bits := range 4 {
			rows := with(own, "39:-1", "40:-1")
			if bits&1 != 0 {
				rows[39] = timed
			}
			if bits&2 != 0 {
				rows[40] = plain
			}
			if bits > 0 && n > api.MaxQueue {
				notFrom(t, rows, n, bits)
				continue
			}
			if got := from(t, rows).Rows(); !slices.EqualFunc(got, rows, slices.Equal) {
				t.Errorf("%d, %d: %v", n, bits, got)
			}
		}
	}
}
