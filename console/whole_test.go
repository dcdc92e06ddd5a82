package console_test

import (
	"fmt"
	"slices"
	"strings"
	"testing"

	"paceline/api"
	"paceline/console"
	"paceline/rti"
)

// model does the calls itself, on one that is kept as rows, not as a text.
type model struct {
	r    *rti.Rti
	kept [][]string
}

// line is a line, and what is to be done of it: the reply with OK, and the error.
type line struct {
	text string
	do   func(m *model) (string, api.Errno)
}

// of is a line of these parts.
func of(do func(m *model) (string, api.Errno), parts ...any) line {
	return line{strings.TrimSuffix(fmt.Sprintln(parts...), "\n"), do}
}

// just is a line whose call answers an error alone.
func just(call func(r *rti.Rti) api.Errno, parts ...any) line {
	return of(func(m *model) (string, api.Errno) { return "ok", call(m.r) }, parts...)
}

func (m *model) reply(l line) string {
	answer, e := l.do(m)
	if e != api.OK {
		return fmt.Sprintf("error %d", e)
	}
	return answer
}

func (m *model) look(f int) (string, api.Errno) {
	g, e := m.r.Look(f)
	answer := fmt.Sprintf("at %d %s", g.Time, map[bool]string{true: "granted", false: "waits"}[g.Granted])
	for _, x := range g.Plain {
		answer += fmt.Sprintf(" plain %d %d %d", x.Key.From, x.Class, x.Body)
	}
	for _, x := range g.Timed {
		answer += fmt.Sprintf(" timed %d %d %d %d %d", x.Key.T, x.Key.From, x.Key.Seq, x.Class, x.Body)
	}
	return answer, e
}

func (m *model) send(f, c, body, t int, timed bool) (string, api.Errno) {
	n, e := m.r.Send(f, c, body, t, timed)
	return fmt.Sprintf("ok %d", n), e
}

func (m *model) save() (string, api.Errno) {
	e := m.r.Begin()
	if e == api.OK {
		m.kept, e = m.r.End()
	}
	return "ok", e
}

func (m *model) restore() (string, api.Errno) {
	if m.kept == nil {
		return "", api.ErrNone
	}
	r, e := rti.From(m.kept)
	m.r = r
	return "ok", e
}

func (m *model) classes(parents []int) (string, api.Errno) {
	r, e := rti.New(parents)
	if e == api.OK {
		m.r = r
	}
	return "ok", e
}

// drawn draws numbers below a bound, from a seed on: the same ones of each seed.
func drawn(seed int) func(below int) int {
	state := uint64(seed)*2862933555777941757 + 3037000493
	return func(below int) int {
		state = state*6364136223846793005 + 1442695040888963407
		return int((state >> 33) % uint64(below))
	}
}

// often are words of lines; those that stand here more than once are drawn more often.
var often = strings.Fields("send send send send plain plain tar nmr fqr look look look look look look look retract retract subscribe publish regulate constrain join join time save")

// seldom are the others, and lines that are none.
var seldom = strings.Fields("resign unpublish unsubscribe unregulate unconstrain save restore none none classes")

// anyLine of one of n federates of r, now and then of nobody, or of no class.
func anyLine(draw func(int) int, r *rti.Rti, n, classes int) line {
	f, c := draw(n), draw(classes)
	switch draw(100) {
	case 0, 1:
		f = []int{-1, api.MaxFeds}[draw(2)]
	case 2, 3:
		c = []int{-1, classes}[draw(2)]
	}
	near := max(r.Time(f), 0) - 1 + draw(12)
	word := often[draw(len(often))]
	if draw(10) == 0 {
		word = seldom[draw(len(seldom))]
	}
	if l, is := ofFederate(word, f); is {
		return l
	}
	switch word {
	case "publish", "unpublish":
		return just(func(r *rti.Rti) api.Errno { return r.Publish(f, c, word == "publish") }, word, f, c)
	case "subscribe", "unsubscribe":
		return just(func(r *rti.Rti) api.Errno { return r.Subscribe(f, c, word == "subscribe") }, word, f, c)
	case "regulate":
		look := draw(5)
		return just(func(r *rti.Rti) api.Errno { return r.Regulate(f, look) }, word, f, look)
	case "retract":
		h := draw(12)
		return just(func(r *rti.Rti) api.Errno { return r.Retract(f, h) }, word, f, h)
	case "tar", "nmr", "fqr":
		kind := 1 + slices.Index([]string{"tar", "nmr", "fqr"}, word)
		return just(func(r *rti.Rti) api.Errno { return r.Ask(f, kind, near) }, word, f, near)
	case "send":
		body, t := draw(api.MaxBody), near+draw(4)
		return of(func(m *model) (string, api.Errno) { return m.send(f, c, body, t, true) }, word, f, c, body, t)
	case "plain":
		body := draw(api.MaxBody + 1)
		return of(func(m *model) (string, api.Errno) { return m.send(f, c, body, 0, false) }, "send", f, c, body)
	case "none":
		return of(func(*model) (string, api.Errno) { return "", api.ErrLine }, noLines[draw(len(noLines))])
	}
	return ofWhole(draw, word)
}

// ofFederate is a line of a federate alone, if the word is such a one's.
func ofFederate(word string, f int) (line, bool) {
	switch word {
	case "join":
		return just(func(r *rti.Rti) api.Errno { return r.Join(f) }, word, f), true
	case "resign":
		return just(func(r *rti.Rti) api.Errno { return r.Resign(f) }, word, f), true
	case "constrain":
		return just(func(r *rti.Rti) api.Errno { return r.Constrain(f) }, word, f), true
	case "unconstrain":
		return just(func(r *rti.Rti) api.Errno { return r.Unconstrain(f) }, word, f), true
	case "unregulate":
		return just(func(r *rti.Rti) api.Errno { return r.Unregulate(f) }, word, f), true
	case "look":
		return of(func(m *model) (string, api.Errno) { return m.look(f) }, word, f), true
	case "time":
		return of(func(m *model) (string, api.Errno) {
			return fmt.Sprintf("time %d %d", m.r.Time(f), m.r.Bound(f)), api.OK
		}, word, f), true
	}
	return line{}, false
}

// ofWhole is a line of all of it.
func ofWhole(draw func(int) int, word string) line {
	switch word {
	case "save":
		return of((*model).save, word)
	case "restore":
		return of((*model).restore, word)
	}
	// Seldom, as all begins anew with it; mostly one that is refused.
	parents := []int{-1, 0, draw(40), 1}
	return of(func(m *model) (string, api.Errno) { return m.classes(parents) }, "classes -1 0", parents[2], 1)
}

// started are lines by which n federates of these classes begin.
func started(draw func(int) int, n, classes int) []line {
	parents := []int{-1, 0, 0, 2}
	l := []line{of(func(m *model) (string, api.Errno) { return m.classes(parents[:classes]) }, strings.Fields("classes -1 0 0 2")[:classes+1])}
	l[0].text = strings.Trim(l[0].text, "[]")
	add := func(x line) { l = append(l, x) }
	for f := range n {
		c, d := draw(classes), draw(classes)
		add(just(func(r *rti.Rti) api.Errno { return r.Join(f) }, "join", f))
		add(just(func(r *rti.Rti) api.Errno { return r.Publish(f, c, true) }, "publish", f, c))
		add(just(func(r *rti.Rti) api.Errno { return r.Publish(f, d, true) }, "publish", f, d))
		add(just(func(r *rti.Rti) api.Errno { return r.Subscribe(f, 0, true) }, "subscribe", f, 0))
		if draw(4) > 0 {
			look := 1 + draw(4)
			add(just(func(r *rti.Rti) api.Errno { return r.Regulate(f, look) }, "regulate", f, look))
		}
		if draw(4) > 0 {
			add(just(func(r *rti.Rti) api.Errno { return r.Constrain(f) }, "constrain", f))
		}
	}
	return l
}

// someDay is a text of drawn lines, and what the model replies to each.
func someDay(seed, length int) (lines, replies []string) {
	draw := drawn(seed)
	r, _ := rti.New([]int{-1})
	m := &model{r: r}
	n, classes := 2+draw(4), 1+draw(4)
	start := started(draw, n, classes)
	for i := range length {
		l := anyLine(draw, m.r, n, classes)
		if i < len(start) {
			l = start[i]
		}
		lines, replies = append(lines, l.text), append(replies, m.reply(l))
	}
	return lines, replies
}

// textOf are the lines as a text, with a line feed behind each, as the last one may be empty.
func textOf(lines []string) string {
	text := ""
	for _, line := range lines {
		text += line + "\n"
	}
	return text
}

// P22.1 to P22.3: drawn days are replied what the calls answer, done one by one.
func TestDrawnDays(t *testing.T) {
	count := map[string]int{}
	for run := range 250 {
		lines, want := someDay(run, 300)
		text := textOf(lines)
		got := console.Replies(text)
		if len(got) != len(want) {
			t.Fatalf("run %d: %d replies, not %d", run, len(got), len(want))
		}
		for i := range want {
			if got[i] != want[i] {
				t.Fatalf("run %d, line %d, %q: %q, not %q\n%s", run, i+1, lines[i], got[i], want[i], strings.Join(lines[:i+1], "\n"))
			}
			tally(count, lines[i], got[i])
		}
		if all := console.Run(text); all != textOf(want) {
			t.Fatalf("run %d: %q", run, all)
		}
		if last := console.Replies(strings.TrimSuffix(text, "\n")); lines[len(lines)-1] != "" && !slices.Equal(last, want) {
			t.Fatalf("run %d: without a line feed at the end the replies are %q", run, last)
		}
	}
	for _, what := range strings.Fields("classes join resign publish unpublish subscribe unsubscribe regulate unregulate constrain unconstrain send retract tar nmr fqr look time save restore granted plain timed 1 4 50 80 81 110 201 202 203 204 205 206 207 208 209 211 220") {
		if count[what] < 30 {
			t.Errorf("only %d of %s", count[what], what)
		}
	}
}

// tally counts which words were replied no error, which errors there were, and what a look gave.
func tally(count map[string]int, line, reply string) {
	if e, is := strings.CutPrefix(reply, "error "); is {
		count[e]++
		return
	}
	word, _, _ := strings.Cut(line, " ")
	count[word]++
	for _, what := range []string{"granted", "plain", "timed"} {
		if strings.Contains(reply, " "+what) {
			count[what]++
		}
	}
}

// W9: what is refused changes nothing: without those lines the others are replied the same.
func TestRefusedChangesNothing(t *testing.T) {
	for run := range 60 {
		lines, replies := someDay(1000+run, 250)
		var kept, want []string
		for i, reply := range replies {
			if !strings.HasPrefix(reply, "error ") {
				kept, want = append(kept, lines[i]), append(want, reply)
			}
		}
		if got := console.Replies(textOf(kept)); !slices.Equal(got, want) {
			t.Fatalf("run %d: %q, not %q", run, got, want)
		}
	}
}

// R5: what is replied hangs on the lines ahead alone, and not on another text.
func TestOneAnswer(t *testing.T) {
	for run := range 20 {
		lines, replies := someDay(2000+run, 120)
		for n := range lines {
			if got := console.Replies(textOf(lines[:n])); !slices.Equal(got, replies[:n]) {
				t.Fatalf("run %d, the first %d: %q", run, n, got)
			}
		}
	}
	first := console.Replies("join 0\nsave\nlook 0")
	first[0] = "changed"
	if again := console.Replies("restore\njoin 0\njoin 0"); !slices.Equal(again, []string{"error 4", "ok", "error 200"}) {
		t.Errorf("%q", again)
	}
}

// W10: behind each save that is not refused, restore goes on just as if it were not there.
func TestRestoredGoesOn(t *testing.T) {
	saves, refusals := 0, 0
	for run := range 60 {
		lines, replies := someDay(3000+run, 250)
		var more, want []string
		for i, line := range lines {
			more, want = append(more, line), append(want, replies[i])
			if line != "save" {
				continue
			}
			if replies[i] != "ok" {
				refusals++
				continue
			}
			saves++
			more, want = append(more, "restore"), append(want, "ok")
		}
		if got := console.Replies(textOf(more)); !slices.Equal(got, want) {
			t.Fatalf("run %d: %q, not %q", run, got, want)
		}
	}
	if saves < 100 || refusals < 100 {
		t.Errorf("only %d saves, %d refused", saves, refusals)
	}
}

// R1: of whatever bytes each line is replied, and none is replied anything but what the document tells.
func TestAnyBytes(t *testing.T) {
	const bytes = "01789 -\n\n\rjoinsendlooktimesave restore classes -1 \x00\xff%,"
	for run := range 3000 {
		draw := drawn(7000 + run)
		lines, _ := someDay(7000+run, 12)
		text := []byte(strings.Join(lines, "\n"))
		for range 1 + draw(6) {
			i := draw(len(text))
			switch draw(3) {
			case 0:
				text[i] = bytes[draw(len(bytes))]
			case 1:
				text = slices.Insert(text, i, bytes[draw(len(bytes))])
			case 2:
				text = slices.Delete(text, i, i+1)
			}
		}
		in := strings.Split(string(text), "\n")
		if in[len(in)-1] == "" {
			in = in[:len(in)-1]
		}
		got := console.Replies(string(text))
		if len(got) != len(in) {
			t.Fatalf("%q: %d replies to %d lines", text, len(got), len(in))
		}
		for i, reply := range got {
			if !mayBe(in[i], reply) {
				t.Fatalf("%q: %q is replied %q", text, in[i], reply)
			}
		}
	}
}

// mayBe tells whether a line may be replied so: by its first word alone.
func mayBe(line, reply string) bool {
	word, _, _ := strings.Cut(line, " ")
	head, _, _ := strings.Cut(reply, " ")
	_, known := takes[word]
	switch {
	case head == "error":
		return true
	case !known && word != "classes":
		return false
	case word == "look":
		return head == "at"
	case word == "time":
		return head == "time"
	}
	return head == "ok" && (reply == "ok") == (word != "send")
}
