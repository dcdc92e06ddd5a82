package console_test

import (
	"slices"
	"strconv"
	"strings"
	"testing"

	"paceline/console"
)

// day holds the lines of l, each with its reply ahead of the next one, against what is replied.
func day(t *testing.T, l ...string) {
	t.Helper()
	var in, want []string
	for i := 0; i < len(l); i += 2 {
		in, want = append(in, l[i]), append(want, l[i+1])
	}
	got := console.Replies(strings.Join(in, "\n"))
	if len(got) != len(want) {
		t.Fatalf("%d replies, not %d", len(got), len(want))
	}
	for i := range want {
		if got[i] != want[i] {
			t.Errorf("line %d, %q: %q, not %q", i+1, in[i], got[i], want[i])
		}
	}
}

// lastReply is the reply to the last one of the lines.
func lastReply(t *testing.T, lines ...string) string {
	t.Helper()
	got := console.Replies(strings.Join(lines, "\n") + "\n")
	if len(got) != len(lines) {
		t.Fatalf("%d lines, %d replies", len(lines), len(got))
	}
	return got[len(got)-1]
}

// duo are lines by which 0 sends timed messages to 1, which takes them.
var duo = strings.Split("classes -1 0,join 0,join 1,publish 0 0,publish 0 1,subscribe 1 0,regulate 0 2,constrain 1", ",")

// The document's example.
func TestExample(t *testing.T) {
	day(t, "join 0", "ok", "join 0", "error 200", "look 0", "at 0 waits", "jump", "error 220")
}

// Examples 4 to 10 of the whole.
func TestExamplesOfTheWhole(t *testing.T) {
	day(t, "classes -1", "ok", "join 0", "ok", "join 1", "ok", "regulate 0 2", "ok", "constrain 1", "ok", "publish 0 0", "ok", "subscribe 1 0", "ok",
		"tar 1 5", "ok", "look 1", "at 0 waits",
		"tar 0 4", "ok", "look 0", "at 4 granted", "look 1", "at 5 granted",
		"time 0", "time 4 1125899906842624", "time 1", "time 5 6",
		"send 0 0 1 3", "error 110",
		"send 0 0 1 6", "ok 0",
		"tar 1 6", "ok", "tar 1 6", "error 206",
		"save", "error 206",
		"tar 0 5", "ok", "look 0", "at 5 granted", "look 1", "at 6 granted timed 6 0 0 0 1",
		"retract 0 0", "error 209",
		"look 0", "at 5 waits")
}

// P22.1: an rti is there first, of one class without a parent, and without members.
func TestFirst(t *testing.T) {
	day(t, "time 0", "time -1 -1", "join 0", "ok", "publish 0 0", "ok", "publish 0 1", "error 81", "subscribe 0 0", "ok", "subscribe 0 1", "error 81", "time 7", "time -1 -1")
}

// P22.1: what each word's call answers, with OK and with each error that it has.
func TestMembers(t *testing.T) {
	day(t, "join 0", "ok", "join 7", "ok", "join 0", "error 200", "join 8", "error 1", "join -1", "error 1",
		"resign 1", "error 201", "resign 8", "error 1", "resign 7", "ok", "resign 7", "error 201", "join 7", "ok")
}

func TestPublishAndSubscribe(t *testing.T) {
	day(t, "classes -1 0 -1", "ok", "join 0", "ok", "join 1", "ok",
		"publish 0 3", "error 81", "publish 2 0", "error 201", "publish 9 0", "error 1", "publish 0 -1", "error 81",
		"subscribe 0 3", "error 81", "subscribe 2 0", "error 201", "subscribe 9 0", "error 1",
		"unpublish 0 3", "error 81", "unpublish 2 0", "error 201", "unpublish 9 0", "error 1",
		"unsubscribe 0 3", "error 81", "unsubscribe 2 0", "error 201", "unsubscribe 9 0", "error 1",
		"send 0 1 5", "error 211", "publish 0 1", "ok", "send 0 1 5", "ok 0", "look 1", "at 0 waits",
		"subscribe 1 0", "ok", "send 0 1 6", "ok 0", "look 1", "at 0 waits plain 0 1 6",
		"subscribe 1 1", "ok", "unsubscribe 1 0", "ok", "send 0 1 7", "ok 0", "look 1", "at 0 waits plain 0 1 7",
		"unsubscribe 1 1", "ok", "send 0 1 8", "ok 0", "look 1", "at 0 waits",
		"unsubscribe 1 1", "ok", "publish 0 2", "ok", "unpublish 0 1", "ok", "send 0 1 9", "error 211", "send 0 2 9", "ok 0", "unpublish 0 1", "ok")
}

func TestRegulateAndConstrain(t *testing.T) {
	day(t, "join 0", "ok", "join 1", "ok",
		"regulate 0 0", "error 80", "regulate 0 1048577", "error 80", "regulate 2 1", "error 201", "regulate 8 1", "error 1",
		"unregulate 0", "error 203", "unregulate 2", "error 201", "unregulate 8", "error 1",
		"regulate 0 1048576", "ok", "regulate 0 1", "error 202", "time 1", "time 0 1048576",
		"unregulate 0", "ok", "regulate 0 1", "ok", "time 1", "time 0 1",
		"unconstrain 1", "error 205", "constrain 1", "ok")
}

func TestConstrain(t *testing.T) {
	day(t, "join 0", "ok", "join 1", "ok", "join 2", "ok",
		"unconstrain 1", "error 205", "unconstrain 3", "error 201", "unconstrain 8", "error 1",
		"constrain 3", "error 201", "constrain 8", "error 1",
		"constrain 1", "ok", "constrain 1", "error 204",
		"tar 1 5", "ok", "unconstrain 1", "error 206", "regulate 1 1", "error 206", "look 1", "at 5 granted",
		"regulate 0 5", "error 207", "regulate 0 6", "ok",
		"tar 2 6", "ok", "constrain 2", "error 206", "unregulate 2", "error 203", "look 2", "at 6 granted", "constrain 2", "error 207",
		"tar 0 1", "ok", "unregulate 0", "error 206", "look 0", "at 1 granted", "constrain 2", "ok", "unconstrain 2", "ok")
}

func TestSend(t *testing.T) {
	day(t, "classes -1 0", "ok", "join 0", "ok", "join 1", "ok", "publish 0 0", "ok", "publish 0 1", "ok", "subscribe 1 0", "ok",
		"send 0 2 0", "error 81", "send 1 0 0", "error 211", "send 2 0 0", "error 201", "send 8 0 0", "error 1",
		"send 0 0 -1", "error 1", "send 0 0 1000", "error 1", "send 0 0 999", "ok 0",
		"send 0 2 0 5", "error 81", "send 1 0 0 5", "error 211", "send 2 0 0 5", "error 201", "send 8 0 0 5", "error 1", "send 0 0 1000 5", "error 1",
		"send 0 0 1 -1", "error 208", "send 0 0 1 1099511627777", "error 208", "send 0 0 1 1125899906842624", "error 208",
		"send 0 0 1 0", "ok 0", "send 0 0 2 1099511627776", "ok 1", "send 0 0 3", "ok 0", "send 0 1 4 4", "ok 2",
		"look 1", "at 0 waits plain 0 0 999 plain 0 0 1 plain 0 0 2 plain 0 0 3 plain 0 1 4",
		"regulate 0 3", "ok", "constrain 1", "ok", "send 0 0 5 2", "error 110", "send 0 0 5 3", "ok 3", "send 0 0 6", "ok 0",
		"look 1", "at 0 waits plain 0 0 6")
}

// ErrFull of a send, of the one that is one too many.
func TestSendFull(t *testing.T) {
	lines := slices.Clone(duo)
	for i := range 64 {
		lines = append(lines, "send 0 1 "+strconv.Itoa(i)+" 9")
		if got, want := lastReply(t, lines...), "ok "+strconv.Itoa(i); got != want {
			t.Fatalf("%q, not %q", got, want)
		}
	}
	if got := lastReply(t, append(lines, "send 0 1 0 9")...); got != "error 2" {
		t.Errorf("%q", got)
	}
	if got := lastReply(t, append(lines, "send 0 1 0")...); got != "ok 0" {
		t.Errorf("%q", got)
	}
	if got := lastReply(t, append(lines, "send 0 1 0", "unconstrain 1")...); got != "error 2" {
		t.Errorf("%q", got)
	}
}

func TestRetract(t *testing.T) {
	after := slices.Clone(duo)
	for i, x := range [][2]string{
		{"retract 0 0", "error 209"}, {"send 0 1 7 5", "ok 0"}, {"send 0 1 8 6", "ok 1"}, {"retract 1 0", "error 209"}, {"retract 2 0", "error 201"}, {"retract 8 0", "error 1"},
		{"retract 0 -1", "error 209"}, {"retract 0 2", "error 209"}, {"retract 0 0", "ok"}, {"retract 0 0", "error 209"}, {"tar 0 9", "ok"}, {"look 0", "at 9 granted"},
		{"tar 1 9", "ok"}, {"look 1", "at 9 granted timed 6 0 1 1 8"}, {"retract 0 1", "error 209"},
	} {
		after = append(after, x[0])
		if got := lastReply(t, after...); got != x[1] {
			t.Errorf("%d, %q: %q, not %q", i, x[0], got, x[1])
		}
	}
}

// P22.1: tar, nmr, fqr ask for kinds 1, 2, 3: one that has messages of 4 and 6, below a bound of 8, is granted another time by each.
func TestAsk(t *testing.T) {
	of := func(lines ...string) string {
		return lastReply(t, append(append(slices.Clone(duo), "send 0 1 7 4", "send 0 0 8 6", "tar 0 6", "look 0"), lines...)...)
	}
	for line, want := range map[string]string{
		"tar 1 7": "at 7 granted timed 4 0 0 1 7 timed 6 0 1 0 8", "nmr 1 7": "at 4 granted timed 4 0 0 1 7", "fqr 1 7": "at 4 granted timed 4 0 0 1 7 timed 6 0 1 0 8",
		"tar 1 8": "at 0 waits", "nmr 1 8": "at 4 granted timed 4 0 0 1 7", "fqr 1 3": "at 3 granted timed 4 0 0 1 7 timed 6 0 1 0 8",
		"tar 1 3": "at 3 granted", "nmr 1 3": "at 3 granted", "tar 1 5": "at 5 granted timed 4 0 0 1 7",
	} {
		if got := of(line); got != "ok" {
			t.Errorf("%q: %q", line, got)
		}
		if got := of(line, "look 1"); got != want {
			t.Errorf("%q: %q, not %q", line, got, want)
		}
	}
	for _, word := range []string{"tar", "nmr", "fqr"} {
		for line, want := range map[string]string{
			" 1 -1": "error 208", " 1 1099511627777": "error 208", " 1 1099511627776": "ok", " 1 0": "ok", " 0 5": "error 207", " 2 5": "error 201", " 8 5": "error 1", " -1 5": "error 1",
		} {
			if got := of(word + line); got != want {
				t.Errorf("%q: %q, not %q", word+line, got, want)
			}
			if got := of("nmr 1 9", word+" 1 9"); got != "error 206" {
				t.Errorf("%q twice: %q", word, got)
			}
		}
	}
}

// P22.1: of time each federate, and nobody, is answered both.
func TestTime(t *testing.T) {
	day(t, "time -1", "time -1 -1", "time 8", "time -1 -1", "time 1152921504606846976", "time -1 -1", "time -1152921504606846976", "time -1 -1",
		"join 3", "ok", "join 4", "ok", "time 3", "time 0 1125899906842624", "tar 3 10", "ok", "look 3", "at 10 granted", "time 3", "time 10 1125899906842624",
		"regulate 3 2", "ok", "time 4", "time 0 12", "time 3", "time 10 1125899906842624", "resign 3", "ok", "time 3", "time -1 -1", "time 4", "time 0 1125899906842624")
}

// P22.1: classes makes another one, which is there from then on; the one that was there, if they are no tree.
func TestClasses(t *testing.T) {
	day(t, "join 0", "ok", "classes -1 0 1", "ok", "time 0", "time -1 -1", "join 0", "ok", "publish 0 2", "ok", "publish 0 3", "error 81",
		"classes", "error 50", "classes 0", "error 50", "classes -1 1", "error 50", "classes -2", "error 50", "classes -1 x", "error 220", "classes x", "error 220",
		"classes"+strings.Repeat(" -1", 17), "error 50",
		"join 0", "error 200", "send 0 2 3", "ok 0", "publish 0 2", "ok", "publish 0 3", "error 81",
		"classes"+strings.Repeat(" -1", 16), "ok", "join 0", "ok", "publish 0 15", "ok", "publish 0 16", "error 81")
}

// takes is how many integers each word takes.
var takes = map[string][]int{
	"join": {1}, "resign": {1}, "unregulate": {1}, "constrain": {1}, "unconstrain": {1}, "look": {1}, "time": {1},
	"publish": {2}, "unpublish": {2}, "subscribe": {2}, "unsubscribe": {2}, "regulate": {2}, "retract": {2}, "tar": {2}, "nmr": {2}, "fqr": {2},
	"send": {3, 4}, "save": {0}, "restore": {0},
}

// P22.1: error 220 of other numbers of words, of each word; of the right ones another reply.
func TestNumbersOfWords(t *testing.T) {
	for word, right := range takes {
		for n := range 8 {
			got := lastReply(t, word+strings.Repeat(" 0", n))
			if (got == "error 220") == slices.Contains(right, n) {
				t.Errorf("%q with %d integers: %q", word, n, got)
			}
		}
	}
}

// notIntegers are words that are no integers as lines.Num has them.
var notIntegers = []string{"", "x", "+0", "-0", "00", "01", "-01", "0x0", "0.0", "1e0", "0,0", "--1", "-", "0\t", "\t0", "0\r", "\x000", "%", "٣", "1_0", "\xff",
	"1152921504606846977", "-1152921504606846977", "9223372036854775808", "18446744073709551616", "99999999999999999999999999999999"}

// P22.1: error 220 of what is no integer, in each place; also where the call would tell another error.
func TestNoInteger(t *testing.T) {
	for word, right := range takes {
		for _, n := range right {
			for place := range n {
				for _, no := range notIntegers {
					line := strings.Split(word+strings.Repeat(" 9", n), " ")
					line[1+place] = no
					if got := lastReply(t, strings.Join(line, " ")); got != "error 220" {
						t.Errorf("%q: %q", line, got)
					}
				}
			}
		}
	}
}

// P22.1: the greatest and the least integers are some.
func TestGreatIntegers(t *testing.T) {
	for word, right := range takes {
		for _, n := range right {
			for _, great := range []string{" 1152921504606846976", " -1152921504606846976"} {
				want := map[string]string{"save": "ok", "restore": "error 4", "time": "time -1 -1"}[word]
				if want == "" {
					want = "error 1"
				}
				if got := lastReply(t, word+strings.Repeat(great, n)); got != want {
					t.Errorf("%q with %q: %q", word, great, got)
				}
			}
		}
	}
	day(t, "join 0", "ok", "publish 0 1152921504606846976", "error 81", "regulate 0 1152921504606846976", "error 80", "tar 0 -1152921504606846976", "error 208",
		"publish 0 0", "ok", "send 0 0 1152921504606846976", "error 1", "send 0 0 0 1152921504606846976", "error 208", "retract 0 1152921504606846976", "error 209",
		"classes 1152921504606846976", "error 50", "classes 1152921504606846977", "error 220")
}

// noLines are lines that are none.
var noLines = []string{"", " ", "  ", "jump", "Join 0", "JOIN 0", "join  0", " join 0", "join 0 ", "join\t0", "join 0\r", "join0", "join,0", "0", "0 join", "-1", "ok", "error 220",
	"joi 0", "joins 0", "\xff 0", "\x00", "join\u00a00", "classes ", "classes  -1", "classes -1 ", " classes -1", "Classes -1", "class -1", "save ", " save", "save save", "saved", "restore ", " restore",
	"send 0 0", "send 0 0 0 0 0", "SEND 0 0 0", "sent 0 0 0", "ask 0 1 5", "begin", "end", "bound 0", "rows", "leave 0", "tar", "tarr 0 1", "nmr 0", "fqr 0"}

// P22.1: error 220 of a line that is none, which changes nothing of what the next ones are replied.
func TestNoLines(t *testing.T) {
	plain := append(slices.Clone(duo), "save", "send 0 1 7 5", "send 0 1 8", "look 1", "nmr 1 9", "look 1", "tar 0 4", "look 0", "look 1", "time 0", "time 1", "restore", "time 0", "join 0", "time 7")
	want := console.Replies(strings.Join(plain, "\n"))
	for _, no := range noLines {
		lines := []string{no}
		for _, line := range plain {
			lines = append(lines, line, no)
		}
		got := console.Replies(strings.Join(lines, "\n") + "\n")
		if len(got) != len(lines) {
			t.Fatalf("%q: %d replies, not %d", no, len(got), len(lines))
		}
		for i := range got {
			if i%2 == 0 && got[i] != "error 220" || i%2 == 1 && got[i] != want[i/2] {
				t.Errorf("%q, line %d, %q: %q", no, i, lines[i], got[i])
			}
		}
	}
}

// P22.1: a text's last line may be empty, and is none then; a line feed stands between two.
func TestLastLine(t *testing.T) {
	for s, want := range map[string][]string{
		"": nil, "\n": {"error 220"}, "\n\n": {"error 220", "error 220"}, "\n\n\n": {"error 220", "error 220", "error 220"}, " ": {"error 220"}, " \n": {"error 220"},
		"join 0": {"ok"}, "join 0\n": {"ok"}, "join 0\n\n": {"ok", "error 220"}, "\njoin 0": {"error 220", "ok"},
		"join 0\njoin 1": {"ok", "ok"}, "join 0\njoin 1\n": {"ok", "ok"}, "join 0\n\njoin 1": {"ok", "error 220", "ok"}, "join 0\n ": {"ok", "error 220"},
		"join 0\r\njoin 0\r\n": {"error 220", "error 220"}, "join 0\rjoin 1": {"error 220"}, "join 0\v": {"error 220"}, "save\x00\n": {"error 220"}, "\xff\n\xfe": {"error 220", "error 220"},
	} {
		if got := console.Replies(s); !slices.Equal(got, want) {
			t.Errorf("%q: %q, not %q", s, got, want)
		}
	}
}

// P22.1: error 4 of restore, while nothing is kept; a save that was refused keeps nothing.
func TestNothingKept(t *testing.T) {
	day(t, "restore", "error 4", "restore", "error 4", "join 0", "ok", "tar 0 5", "ok", "save", "error 206", "restore", "error 4", "look 0", "at 5 granted",
		"restore", "error 4", "time 0", "time 5 1125899906842624", "restore 0", "error 220", "save", "ok", "restore", "ok", "restore", "ok")
}

// P22.1: what save tells is kept, whatever is done afterwards, and as often as it is restored; a later save is kept in its place.
func TestSaveAndRestore(t *testing.T) {
	day(t, "classes -1 0", "ok", "join 0", "ok", "join 1", "ok", "publish 0 1", "ok", "subscribe 1 0", "ok", "regulate 0 2", "ok", "constrain 1", "ok", "send 0 1 7 5", "ok 0", "send 0 1 8", "ok 0",
		"save", "ok", "save", "ok",
		"look 1", "at 0 waits plain 0 1 8", "retract 0 0", "ok", "send 0 1 9 6", "ok 1", "tar 1 1", "ok", "save", "error 206", "look 1", "at 1 granted", "resign 0", "ok",
		"classes -1", "ok", "join 2", "ok", "classes 0", "error 50", "time 2", "time 0 1125899906842624",
		"restore", "ok", "time 2", "time -1 -1", "join 0", "error 200", "send 0 1 6 7", "ok 1", "look 1", "at 0 waits plain 0 1 8", "tar 0 9", "ok", "look 0", "at 9 granted", "tar 1 9", "ok",
		"look 1", "at 9 granted timed 5 0 0 1 7 timed 7 0 1 1 6", "time 1", "time 9 11",
		"restore", "ok", "time 0", "time 0 1125899906842624", "time 1", "time 0 2", "look 1", "at 0 waits plain 0 1 8", "retract 0 1", "error 209", "retract 0 0", "ok",
		"save", "ok", "join 2", "ok", "restore", "ok", "time 2", "time -1 -1", "retract 0 0", "error 209", "look 1", "at 0 waits",
		"tar 1 3", "ok", "save", "error 206", "restore", "ok", "save", "ok", "tar 1 1", "ok", "look 1", "at 1 granted")
}

// P22.1: while nothing is done but saved, nothing is changed, and no save stays under way.
func TestSavedGoesOn(t *testing.T) {
	day(t, "save", "ok", "save", "ok", "join 0", "ok", "time 0", "time 0 1125899906842624", "restore", "ok", "time 0", "time -1 -1", "join 0", "ok", "look 0", "at 0 waits")
}

// P22.2: at, the time, whether it was granted; the plain ones in the order in which they came, then the timed ones by their keys.
func TestLook(t *testing.T) {
	day(t, "look 0", "error 201", "look 8", "error 1", "look -1", "error 1",
		"classes -1 0 0", "ok", "join 0", "ok", "join 1", "ok", "join 2", "ok", "publish 0 1", "ok", "publish 2 2", "ok", "publish 2 0", "ok", "subscribe 1 0", "ok",
		"regulate 0 2", "ok", "regulate 2 3", "ok", "constrain 1", "ok",
		"send 2 2 21 9", "ok 0", "send 0 1 11 9", "ok 0", "send 2 0 22 4", "ok 1", "send 0 1 12", "ok 0", "send 2 2 23", "ok 0", "send 0 1 13 9", "ok 1", "send 0 1 14", "ok 0", "send 2 2 24 30", "ok 2",
		"look 1", "at 0 waits plain 0 1 12 plain 2 2 23 plain 0 1 14", "look 1", "at 0 waits",
		"tar 1 9", "ok", "look 1", "at 0 waits", "send 0 1 15", "ok 0", "look 1", "at 0 waits plain 0 1 15", "send 2 0 999", "ok 0",
		"tar 0 20", "ok", "look 0", "at 20 granted", "tar 2 20", "ok", "look 2", "at 20 granted",
		"look 1", "at 9 granted plain 2 0 999 timed 4 2 1 0 22 timed 9 0 0 1 11 timed 9 0 1 1 13 timed 9 2 0 2 21",
		"look 1", "at 9 waits", "nmr 1 20", "ok", "look 1", "at 20 granted", "tar 1 20", "ok", "look 1", "at 20 granted",
		"tar 1 22", "ok", "look 1", "at 20 waits", "look 0", "at 20 waits")
}

// P22.2: far times, numbers of many digits, and who is not constrained.
func TestLookFar(t *testing.T) {
	lines := append(slices.Clone(duo), "regulate 1 1", "publish 1 0", "subscribe 0 0", "send 0 1 0 1099511627776")
	for range 63 {
		lines = append(lines, "send 1 0 1")
	}
	lines = append(lines, "send 0 0 100 1099511627775", "tar 0 1099511627776", "look 0", "tar 1 1099511627776", "look 1")
	got := console.Replies(strings.Join(lines, "\n"))
	if want := "at 1099511627776 granted" + strings.Repeat(" plain 1 0 1", 63); got[len(got)-3] != want {
		t.Errorf("%q, not %q", got[len(got)-3], want)
	}
	if want := "at 1099511627776 granted timed 1099511627775 0 1 0 100 timed 1099511627776 0 0 1 0"; got[len(got)-1] != want {
		t.Errorf("%q, not %q", got[len(got)-1], want)
	}
}

// P22.3: the replies, a line feed behind each.
func TestRun(t *testing.T) {
	for s, want := range map[string]string{
		"": "", "\n": "error 220\n", "join 0": "ok\n", "join 0\n": "ok\n", "join 0\njoin 0\nlook 0\njump": "ok\nerror 200\nat 0 waits\nerror 220\n", "join 0\n\n": "ok\nerror 220\n",
		strings.Join(duo, "\n") + "\nsend 0 1 5 3\nsend 0 1 5\ntime 1\nlook 1\n": strings.Repeat("ok\n", len(duo)) + "ok 0\nok 0\ntime 0 2\nat 0 waits plain 0 1 5\n",
	} {
		if got := console.Run(s); got != want {
			t.Errorf("%q: %q, not %q", s, got, want)
		}
	}
}
