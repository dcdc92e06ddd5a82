package save_test

import (
	"hash/fnv"
	"strconv"
	"strings"
	"testing"

	"paceline/api"
	"paceline/rti"
	"paceline/save"
)

// noMember are the lines of a federate that is none, and has sent nothing.
const noMember = "0,0,0,0,0,0,0\n-1\n-1\n-1\n-1\n"

// ofNobody are the lines of one without members, of one class.
const ofNobody = "-1\n" + noMember + noMember + noMember + noMember + noMember + noMember + noMember + noMember

// rich are the lines of one in which nobody has asked, and all else is told of somebody.
const rich = "-1,0,0,1\n" +
	"1,3,2,1,0,0,3\n-1,1,3\n-1,0\n-1,8,4,0,0,3,998,8,4,1,0,3,999\n-1,0,4,2,0,3,5\n" +
	"1,0,0,0,0,0,0\n-1\n-1,1,3\n-1\n-1,5,0,0,1,1,7,6,0,1,1,1,8,0,4,2,1,3,5,1099511627776,0,2,1,3,0,0,0,3,1,3,1\n" +
	"0,0,0,0,0,0,6\n-1\n-1\n-1\n-1\n" +
	noMember +
	"1,7,1,0,0,0,2\n-1,3\n-1\n-1\n-1\n" +
	noMember + noMember +
	"1,0,0,1,0,0,0\n-1\n-1,3\n-1,8,4,0,7,3,998,8,4,1,7,3,999,1099511627776,0,2,7,3,0\n-1,0,4,2,7,3,5,0,0,3,7,3,1\n"

// asked are the lines of one in which 0, 4 and 7 have asked.
var asked = strings.NewReplacer("1,3,2,1,0,0,3\n", "1,3,2,1,1,9,3\n", "1,7,1,0,0,0,2\n", "1,7,1,0,3,20,2\n", "1,0,0,1,0,0,0\n", "1,0,0,1,2,1099511627776,0\n").Replace(rich)

// withSeal is text with its seal behind it, by another way than the program's.
func withSeal(text string) string {
	sum := fnv.New32a()
	sum.Write([]byte(text))
	digits := strconv.FormatUint(uint64(sum.Sum32()), 16)
	return text + "=" + strings.Repeat("0", 8-len(digits)) + digits + "\n"
}

// rowsOf reads a text of lines, of fields with commas between, as rows.
func rowsOf(text string) [][]string {
	var rows [][]string
	for line := range strings.Lines(text) {
		rows = append(rows, strings.Split(strings.TrimSuffix(line, "\n"), ","))
	}
	return rows
}

// all that r tells, as a text.
func all(r *rti.Rti) string {
	text := ""
	for _, row := range r.Rows() {
		text += strings.Join(row, ",") + "\n"
	}
	return text
}

// done: these calls were refused nothing.
func done(t *testing.T, es ...api.Errno) {
	t.Helper()
	for i, e := range es {
		if e != api.OK {
			t.Fatalf("call %d: %d", i, e)
		}
	}
}

// from is the one of these lines, made without a text.
func from(t *testing.T, text string) *rti.Rti {
	t.Helper()
	r, e := rti.From(rowsOf(text))
	done(t, e)
	return r
}

func saved(t *testing.T, r *rti.Rti) string {
	t.Helper()
	s, e := save.Save(r)
	done(t, e)
	return s
}

func loaded(t *testing.T, s string) *rti.Rti {
	t.Helper()
	r, e := save.Load(s)
	if e != api.OK || r == nil {
		t.Fatalf("Load: %d", e)
	}
	return r
}

func notSaved(t *testing.T, r *rti.Rti, want api.Errno) {
	t.Helper()
	was := all(r)
	if s, e := save.Save(r); s != "" || e != want {
		t.Errorf("Save: %q, %d, not %d", s, e, want)
	}
	if all(r) != was {
		t.Errorf("Save, refused, changed\n%sto\n%s", was, all(r))
	}
}

func notLoaded(t *testing.T, s string, want api.Errno) {
	t.Helper()
	if r, e := save.Load(s); r != nil || e != want {
		t.Errorf("Load(%q): %d, not %d", s, e, want)
	}
}

// P21.1: the seal of the lines of all of it.
func TestSave(t *testing.T) {
	r, e := rti.New([]int{-1})
	done(t, e)
	if s := saved(t, r); s != withSeal(ofNobody) {
		t.Errorf("%q", s)
	}
	if s := saved(t, from(t, rich)); s != withSeal(rich) {
		t.Errorf("%q", s)
	}
	done(t, r.Join(0), r.Join(1), r.Publish(0, 0, true), r.Subscribe(1, 0, true), r.Regulate(0, 3), r.Constrain(1))
	for i, m := range []struct {
		body, t int
		timed   bool
	}{{7, 5, true}, {8, 3, true}, {9, 4, false}} {
		n, e := r.Send(0, 0, m.body, m.t, m.timed)
		if done(t, e); m.timed && n != i {
			t.Fatal(n)
		}
	}
	text := "-1\n1,0,3,0,0,0,2\n-1,0\n-1\n-1\n-1\n1,0,0,1,0,0,0\n-1\n-1,0\n-1,3,0,1,1,0,8,5,0,0,1,0,7\n-1,0,0,2,1,0,9\n" + strings.Repeat(noMember, 6)
	if s := saved(t, r); s != withSeal(text) {
		t.Errorf("%q", s)
	}
}

// P21.1: the save ends, and nothing is changed: it is as if there had been none.
func TestSaveEnds(t *testing.T) {
	for _, text := range []string{ofNobody, rich} {
		r := from(t, text)
		for range 3 {
			if s := saved(t, r); s != withSeal(text) || all(r) != text {
				t.Errorf("%q", s)
			}
			if rows, e := r.End(); rows != nil || e != api.ErrNoSave {
				t.Error(e)
			}
		}
		done(t, r.Join(3), r.Ask(3, 1, 5))
	}
}

// P21.1: who has asked for whatever, nothing is saved; it is begun no more than ended.
func TestSavePending(t *testing.T) {
	for f := range api.MaxFeds {
		for kind := 1; kind <= 3; kind++ {
			r := from(t, ofNobody)
			for other := range api.MaxFeds {
				done(t, r.Join(other))
			}
			done(t, r.Ask(f, kind, 5))
			notSaved(t, r, api.ErrPending)
			if _, e := r.End(); e != api.ErrNoSave {
				t.Error(f, kind, e)
			}
			// Nobody regulates: it is granted.
			if g, e := r.Look(f); !g.Granted || e != api.OK {
				t.Error(f, kind, g, e)
			}
			saved(t, r)
		}
	}
	notSaved(t, from(t, asked), api.ErrPending)
}

// P21.1: somebody else's save that is under way stays so.
func TestSaveSaving(t *testing.T) {
	for _, text := range []string{ofNobody, rich} {
		r := from(t, text)
		done(t, r.Begin())
		for range 2 {
			notSaved(t, r, api.ErrSaving)
			if e := r.Join(3); e != api.ErrSaving {
				t.Error(e)
			}
		}
		rows, e := r.End()
		if done(t, e); len(rows) != len(rowsOf(text)) {
			t.Error(rows)
		}
		if s := saved(t, r); s != withSeal(text) {
			t.Errorf("%q", s)
		}
	}
}

// P21.2
func TestLoad(t *testing.T) {
	for _, text := range []string{ofNobody, rich, asked} {
		r := loaded(t, withSeal(text))
		if got := all(r); got != text {
			t.Errorf("\n%snot\n%s", got, text)
		}
		if _, e := r.End(); e != api.ErrNoSave {
			t.Error(e)
		}
		if same := all(loaded(t, withSeal(text))); same != text {
			t.Errorf("once more:\n%s", same)
		}
	}
}

// P21.2: what nobody has sealed.
func TestLoadSeal(t *testing.T) {
	good := withSeal(rich)
	// Of this one, the sum has letters and noughts.
	letters := withSeal("a")
	for _, s := range []string{
		"", "\n", "=", "=811c9dc5", "=811c9dc5\n\n", "811c9dc5\n", "=811c9dc4\n", " =811c9dc5\n", "=811C9DC5\n", "=0811c9dc5\n", "=811c9dc\n", "=811c9dc5\r\n",
		rich, strings.TrimSuffix(good, "\n"), good + "\n", good + good, "\n" + good, good[1:], good[:len(good)-2] + "\n", strings.ToUpper(good),
		"a=e40c292d\n", strings.ToUpper(letters), "b" + letters[1:], letters + "a", "a", "a\n", "%zz\n", rich + withSeal(""), withSeal(rich)[:9],
		// What is sealed here could not be decoded either.
		"a=00000000\n", "%=00000000\n", "\n=00000000\n",
	} {
		notLoaded(t, s, api.ErrSeal)
	}
}

// P21.2: what is sealed, but can't be decoded.
func TestLoadCode(t *testing.T) {
	for _, text := range []string{
		"a", "-1", "%\n", "%zz\n", "%2\n", "%2c\n", "%0a\n", "%2B\n",
		rich + "-1", strings.TrimSuffix(rich, "\n"), "%" + rich, rich + "%", rich + "%\n", strings.Replace(rich, ",", "%", 1), strings.Replace(rich, "998", "%39%39%38", 1),
		ofNobody + "0",
	} {
		notLoaded(t, withSeal(text), api.ErrForm)
	}
}

// P21.2: what is decoded, but is nobody's rows.
func TestLoadRows(t *testing.T) {
	for _, text := range []string{
		"", "\n", "a\n", "-1\n", noMember, "-1\n" + strings.Repeat(noMember, 7), "-1\n" + strings.Repeat(noMember, 9), ofNobody + "\n", "\n" + ofNobody,
		rich + rich, withSeal(rich), strings.ReplaceAll(rich, "\n", "\r\n"), strings.ReplaceAll(rich, ",", "%2C"), strings.ReplaceAll(rich, ",", ", "), strings.ReplaceAll(rich, "\n", "%0A"),
		strings.Replace(rich, "-1,0,0,1\n", "-1,0,0,9\n", 1),            // no tree
		strings.Replace(rich, "1,3,2,1,0,0,3\n", "1,-3,2,1,0,0,3\n", 1), // no time
		strings.Replace(rich, "1,3,2,1,0,0,3\n", "1,3,2,1,0,0,2\n", 1),  // one more came than it sent
		strings.Replace(rich, "1,3,2,1,0,0,3\n", "1,3,2,0,0,0,3\n", 1),  // a timed one waits for who is not constrained
		strings.Replace(rich, "1,3,2,1,0,0,3\n", "1,3,2,1,1,2,3\n", 1),  // it asks for what has passed
		strings.Replace(rich, "1,3,2,1,0,0,3\n", "1,03,2,1,0,0,3\n", 1),
		strings.Replace(rich, "-1,1,3\n", "-1,3,1\n", 1), // classes that don't rise
		strings.Replace(rich, "998", "9%25", 1), strings.Replace(rich, "998", "1000", 1), strings.Replace(rich, "998", "", 1),
		strings.Replace(rich, "0,0,0,0,0,0,6\n", "0,1,0,0,0,0,6\n", 1), // a time of who is no member
	} {
		if text == rich {
			t.Fatal("nothing replaced")
		}
		notLoaded(t, withSeal(text), api.ErrForm)
	}
	for i := range rowsOf(rich) {
		l := strings.SplitAfter(rich, "\n")
		notLoaded(t, withSeal(strings.Join(l[:i], "")+strings.Join(l[i+1:], "")), api.ErrForm)
		notLoaded(t, withSeal(strings.Join(l[:i], "")), api.ErrForm)
	}
}

// P21.3: of what is saved any byte is changed to any other one.
func TestOneByte(t *testing.T) {
	for _, text := range []string{ofNobody, rich} {
		s := saved(t, from(t, text))
		loaded(t, s)
		for i := range len(s) {
			for c := range 256 {
				if byte(c) != s[i] {
					notLoaded(t, s[:i]+string([]byte{byte(c)})+s[i+1:], api.ErrSeal)
				}
			}
		}
	}
}

// Two have nothing in common: neither who was saved with whom was loaded, nor those of one text. (R3)
func TestNothingInCommon(t *testing.T) {
	r := from(t, rich)
	s := saved(t, r)
	x, y := loaded(t, s), loaded(t, s)
	done(t, x.Resign(0), x.Resign(1), x.Resign(4), x.Join(3), x.Resign(7), x.Begin())
	if all(r) != rich || all(y) != rich {
		t.Error("what is done with the one is done with the other")
	}
	done(t, y.Join(5), y.Ask(5, 1, 3))
	if all(r) != rich || s != withSeal(rich) {
		t.Error("what is done with the one is done with the other")
	}
	done(t, r.Begin())
	notSaved(t, r, api.ErrSaving)
	notSaved(t, x, api.ErrSaving)
	notSaved(t, y, api.ErrPending)
}
